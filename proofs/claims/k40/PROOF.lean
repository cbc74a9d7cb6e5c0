import PyProof.Rows.All
import Wide.All
import OpenK.AllK
import Wide.FinOn
import Lean
import PyProof.EqAt
import PyProof.EqKinds
import PyProof.TupleCall
import KE.KSortTup
import KE.KDictSum
import PyProof.Rows.SortStr
import PyProof.AutoSeq1
import PyProof.ZipIter
import PyProof.Rows.FStr
import PyProof.Rows.FStrParts
import PyProof.AttrMissHeap
import KE.KDictOf
import PyProof.StrCalls
import KE.KStrOpen
import KE.KRevIter
import PyProof.WalkInts
import KE.KDictList
import PyProof.Rows.SetFrom
import PyProof.SetRoads
import PyProof.DictCompW
import PyProof.DictItems
import KE.KPairComp
import KE.KEqDict
import PyProof.Rows.Range3
import PyProof.WalksMore
import PyProof.DictWalks
import KE.KMinKey
import PySem.Challenge.RW_restways_k40_whole_newest_count
set_option Elab.async false
set_option linter.all false
set_option maxRecDepth 100000
namespace L2
open PySem PySem.Spec PyProof.Rows
noncomputable abbrev Key:=Sum Int Str
noncomputable def zfe:Key->Value->Bool
 | .inl k,v=>Value.isInt k v
 | .inr x,v=>Value.isStrOf x v
noncomputable def zqi(w:World):Key->Int
 | .inl k=>hashInt k
 | .inr x=>hashStr w x
theorem zX:∀{k:Key} {v:Value},zfe k v=true->(∃i t,k=Sum.inl i/\v=Value.int i t)\/(∃x t,k=Sum.inr x/\v=Value.str x t)
 | .inl i,v,h=>by
   obtain⟨t,e⟩:=Value.isInt_shape (k:=i) (v:=v) h
   exact .inl ⟨i,t,rfl,e⟩
 | .inr x,v,h=>by
   obtain⟨t,e⟩:=Value.isStrOf_shape (x:=x) (v:=v) h
   exact .inr ⟨x,t,rfl,e⟩
theorem zka(i:Int)(t:Tok):zfe (.inl i) (.int i t)=true:=by simp[zfe,Value.isInt]
theorem zj3(x:Str)(t:Tok):zfe (.inr x) (.str x t)=true:=by simp[zfe,Value.isStrOf]
theorem zpn(a b:Int):decide ((Sum.inl a:Key)=Sum.inl b)=(a==b):=by
 by_cases e:a=b
 ·subst e;simp
 ·have h:¬(Sum.inl a:Key)=Sum.inl b:=λq=>e (Sum.inl.inj q)
  rw[decide_eq_false h]
  exact(beq_eq_false_iff_ne.mpr e).symm
theorem zoF(a b:Str):decide ((Sum.inr a:Key)=Sum.inr b)=decide (a=b):=by
 by_cases e:a=b
 ·subst e;simp
 ·have h:¬(Sum.inr a:Key)=Sum.inr b:=λq=>e (Sum.inr.inj q)
  rw[decide_eq_false h,decide_eq_false e]
theorem zoN(a:Int)(b:Str):decide ((Sum.inl a:Key)=Sum.inr b)=false:=decide_eq_false (λq=>nomatch q)
theorem zoM(a:Str)(b:Int):decide ((Sum.inr a:Key)=Sum.inl b)=false:=decide_eq_false (λq=>nomatch q)
noncomputable def zW(prog:Program)(w:World):PySem.KeyKind prog w Key where
 is:=zfe
 hash:=zqi w
 inj:=λv a b ha hb=>by
  rcases zX ha with⟨i,t,rfl,rfl⟩|⟨x,t,rfl,rfl⟩
  ·rcases zX hb with⟨j,u,rfl,e⟩|⟨y,u,rfl,e⟩
   ·injection e with e1 _;rw[e1]
   ·exact nomatch e
  ·rcases zX hb with⟨j,u,rfl,e⟩|⟨y,u,rfl,e⟩
   ·exact nomatch e
   ·injection e with e1 _;rw[e1]
 byValue:=λk v h=>by
   rcases zX h with⟨i,t,rfl,rfl⟩|⟨x,t,rfl,rfl⟩<;>rfl
 pyHash:=λhv h=>by
  rcases zX hv with⟨i,t,rfl,rfl⟩|⟨x,t,rfl,rfl⟩
  ·exact wpAny_pyHash_int h
  ·exact wpAny_pyHash_str h
 eqBool:=λhu hv h=>by
  rcases zX hu with⟨i,t,rfl,rfl⟩|⟨x,t,rfl,rfl⟩
  ·rcases zX hv with⟨j,u,rfl,rfl⟩|⟨y,u,rfl,rfl⟩
   ·rw[zpn] at h;exact wpAny_eqBool_int h
   ·rw[zoN] at h;exact SeqAt.EqAt.int_str i t y u _ _ _ _ h
  ·rcases zX hv with⟨j,u,rfl,rfl⟩|⟨y,u,rfl,rfl⟩
   ·rw[zoM] at h;exact SeqAt.EqAt.str_int x t j u _ _ _ _ h
   ·rw[zoF] at h;exact wpAny_eqBool_str h
 «strs»:=λk x t v h=>by
  rcases zX h with⟨i,u,rfl,e⟩|⟨y,u,rfl,e⟩
  ·exact nomatch e
  ·injection e with e1 _
   subst e1
   cases v<;>rfl
theorem zhL(prog:Program)(w:World)(i:Int)(t:Tok):(zW prog w).is (.inl i) (.int i t)=true:=zka i t
theorem zh7(prog:Program)(w:World)(x:Str)(t:Tok):(zW prog w).is (.inr x) (.str x t)=true:=zj3 x t
inductive V where
 |non|bl (b:Bool)|int (i:Int)|str (x:Str)|byt (b:Array UInt8)|flt (b:UInt64)|ref (a:Addr)|ty (n:String)
 deriving DecidableEq
def RelV:V->Value->Prop
 | .non,u=>u=Value.none
 | .bl b,u=>u=Value.bool b
 | .int i,u=>∃t,u=Value.int i t
 | .str x,u=>∃t,u=Value.str x t
 | .byt b,u=>∃t,u=Value.bytes b t
 | .flt b,u=>∃t,u=Value.float b t
 | .ref a,u=>u=Value.ref a
 | .ty n,u=>u=Value.type n
abbrev Vals:List V->List Value->Prop:=Paired RelV
theorem Vals.length{xs:List V}{us:List Value}(r:Vals xs us):xs.length=us.length:=Paired.length r
theorem Vals.get:∀{xs:List V} {us:List Value} {i:Nat} {x:V},Vals xs us->xs[i]?=some x->∃u,us[i]?=some u/\RelV x u
 |_,_,_,_, .nil,e=>by simp at e
 |_,_,0,_, .cons r _,e=>by simp at e;subst e;exact⟨_,rfl,r⟩
 |_,_,i+1,x, .cons _ t,e=>by
  obtain⟨u,h1,h2⟩:=Vals.get (i:=i) (x:=x) t (by simpa using e)
  exact⟨u,by simpa using h1,h2⟩
theorem Vals.set{x:V}{u:Value}(r:RelV x u):∀{xs:List V} {us:List Value} (i:Nat),Vals xs us->Vals (xs.set i x) (us.set i u)
 |_,_,_, .nil=> .nil
 |_,_,0, .cons _ t=> .cons r t
 |_,_,i+1, .cons q t=> .cons q (Vals.set r i t)
theorem Vals.append:∀{xs ys:List V} {us ws:List Value},Vals xs us->Vals ys ws->Vals (xs ++ys) (us ++ws)
 |_,_,_,_, .nil,s=>s
 |_,_,_,_, .cons r t,s=> .cons r (Vals.append t s)
theorem Vals.take:∀{xs:List V} {us:List Value} (n:Nat),Vals xs us->Vals (xs.take n) (us.take n)
 |_,_,0,_=> .nil
 |_,_,_+1, .nil=> .nil
 |_,_,n+1, .cons r t=> .cons r (Vals.take n t)
theorem Vals.drop:∀{xs:List V} {us:List Value} (n:Nat),Vals xs us->Vals (xs.drop n) (us.drop n)
 |_,_,0,r=>r
 |_,_,_+1, .nil=> .nil
 |_,_,n+1, .cons _ t=>Vals.drop n t
def RelO:Option V->Option Value->Prop
 |some v,some u=>RelV v u
 |none,none=>True
 |_,_=>False
def KV{κ:Type}:List (κ×V)->List (κ×Value)->Prop:=Paired λ(p:κ×V) (q:κ×Value)=>p.1=q.1/\RelV p.2 q.2
noncomputable def kV:Key->V
 | .inl i=> .int i
 | .inr x=> .str x
inductive HO where
 |lst (xs:List V)
 |tup (xs:List V)
 |dK (kvs:List (Key×V))|dT (kvs:List (List Key×V))
 |set (S:Int->Bool) (n:Nat)
 |ins (C dx:Addr) (fs:List (Str×V))
 |own (x:Addr)
 |xd (fs:List (Str×V))
 |met (f x:Addr)
 |rng (lo hi:Int)
 |frz (o:Obj) (u:HO)
 |tbl (ps:Array Value)
 |ext (φ:Heap->Prop)
noncomputable abbrev Hp:=Addr->Option HO
noncomputable def upd(H:Hp)(a:Addr)(o:HO):Hp:=λb=>if b=a then some o else H b
theorem zb{H:Hp}{a:Addr}{o:HO}:upd H a o a=some o:=by unfold upd;rw[if_pos rfl]
theorem ze{H:Hp}{a b:Addr}{o:HO}(h:b≠a):upd H a o b=H b:=by unfold upd;rw[if_neg h]
theorem zjt{H:Hp}{a:Addr}{o u:HO}:upd (upd H a o) a u=upd H a u:=by
 funext b;unfold upd;split<;>rfl
theorem zQ{H:Hp}{a b:Addr}{o u:HO}(h:H a=some o)(h':H b=some u)(d:o≠u):a≠b:=by
 intro e;subst e;rw[h] at h';exact d (Option.some.inj h')
theorem zh{H:Hp}{a b:Addr}{o:HO}(h:H a=some o)(h':H b=none):a≠b:=by
 intro e;subst e;rw[h] at h';cases h'
section
variable(P:Program)(w:World)
def NoDict(h:Heap)(a:Addr):Prop:=∀o,h.get? a=some o->o.dict=none
theorem NoDict.new{h:Heap}{o:Obj}(e:o.dict=none)(f:(h.push o).get? h.objs.size=some o):NoDict (h.push o) h.objs.size:=λo' z=>by rw[f] at z;cases z;exact e
def ObjOk(H:Hp)(h:Heap)(a:Addr):HO->Prop
 | .lst xs=>xs.length<=sizeLine/\∃(its:List Value) (n:Nat),Vals xs its/\h.get? a=some {cls:= .type "list",data:= .seq its.toArray n}
 | .tup xs=>xs.length<=sizeLine/\∃its:List Value,Vals xs its/\IsTup h a its.toArray/\NoDict h a
 | .dK kvs=>kvs.length<=sizeLine/\(a==sysModules)=false/\∃vs,KV kvs vs/\h.DictOf (zW P w) a vs
 | .dT kvs=>kvs.length<=sizeLine/\(a==sysModules)=false/\∃xs:List (List Key×Addr×Value),
    Paired (λ(p:List Key×V) (q:List Key×Addr×Value)=>p.1=q.1/\H q.2.1=some (.tup (p.1.map kV))/\RelV p.2 q.2.2) kvs xs/\
    ∃o es ep,h.get? a=some o/\o.ExactDict/\o.data= .dict es ep/\es.toList=xs.map (entryOfKey (tupleKind (zW P w)))/\(xs.map (·.1)).Nodup
 | .set S n=>h.SetOf (intKind P w) a S n
 | .ins C dx fs=>H dx=some (.own a)/\fs.length<=1000/\dx≠a/\h.get? a=some (PySem.W.instObj C dx)/\
    ∃mA,h.Ns1 dx mA/\(∀f,RelO (fs.lookup f) (mA f))/\PySem.Within mA (fs.map (·.1))
 | .own _=>∃o,h.get? a=some o
 | .xd fs=>∃mA,h.Ns1 a mA/\∀f,RelO (fs.lookup f) (mA f)
 | .rng lo hi=>∃t u v,h.get? a=some {cls:= .type "range",data:= .fields #[.int lo t, .int hi u, .int 1 v]}
 | .frz o u=>h.get? a=some o/\ObjOk H h a u
 | .tbl ps=>h.get? a=some {cls:= .none,data:= .fields ps}
 | .met f x=>h.get? a=some (PySem.W.methodObj (.ref f) (.ref x))
 | .ext φ=>φ h/\(∃o,h.get? a=some o)/\∀h1 h2:Heap,φ h1->(∀o,h1.get? a=some o->h2.get? a=some o)->φ h2
def HOk(H:Hp)(h:Heap):Prop:=∀a o,H a=some o->ObjOk P w H h a o
end
section
variable{P:Program}{w:World}{H H':Hp}{h h':Heap}{a:Addr}{o:HO}
theorem ObjOk.lt(x:ObjOk P w H h a o):a<h.objs.size:=by
 cases o with
 |lst xs=>obtain ⟨_,_,_,_,e⟩:=x;exact Heap.lt_size e
 |tup xs=>obtain ⟨_,_,_,p,_⟩:=x;exact p.lt
 |dK kvs=>obtain ⟨_,_,_,_,o,_,_,e,_⟩:=x;exact Heap.lt_size e
 |dT kvs=>obtain ⟨_,_,_,_,o,_,_,e,_⟩:=x;exact Heap.lt_size e
 |set S n=>obtain ⟨o,_,_,_,e,_⟩:=x;exact Heap.lt_size e
 |ins C dx fs=>obtain ⟨_,_,_,e,_⟩:=x;exact Heap.lt_size e
 |own y=>obtain ⟨_,e⟩:=x;exact Heap.lt_size e
 |xd fs=>obtain ⟨_,⟨_,_,_,e,_⟩,_⟩:=x;exact Heap.lt_size e
 |rng lo hi=>obtain ⟨_,_,_,e⟩:=x;exact Heap.lt_size e
 |frz ob u=>obtain ⟨e,_⟩:=x;exact Heap.lt_size e
 |tbl ps=>exact Heap.lt_size (show h.get? a=some _ from x)
 |met f y=>exact Heap.lt_size (show h.get? a=some _ from x)
 |ext φ=>obtain ⟨_,⟨_,e⟩,_⟩:=x;exact Heap.lt_size e
theorem Paired.mapP{α β:Type}{F G:α->β->Prop}:∀{l₁:List α} {l₂:List β},Paired F l₁ l₂->(∀a b,F a b->G a b)->Paired G l₁ l₂
 |_,_, .nil,_=> .nil
 |_,_, .cons r t,f=> .cons (f _ _ r) (Paired.mapP t f)
theorem ObjOk.stay(x:ObjOk P w H h a o)(k:∀b u,(b=a\/H b=some (.own a))->h.get? b=some u->h'.get? b=some u)
 (ho:∀b,H b=some (.own a)->H' b=some (.own a)) (ht:∀b xs,H b=some (.tup xs)->H' b=some (.tup xs)):ObjOk P w H' h' a o:=by
 induction o with
 |lst xs=>obtain ⟨z,its,n,r,e⟩:=x;exact⟨z,its,n,r,k _ _ (.inl rfl) e⟩
 |tup xs=>obtain ⟨z,its,r,⟨ob,e,c⟩,nd⟩:=x;exact⟨z,its,r,⟨ob,k _ _ (.inl rfl) e,c⟩,λo q=>by rw[k _ _ (.inl rfl) e] at q;cases q;exact nd _ e⟩
 |dK kvs=>obtain ⟨z,y,vs,r,ob,es,ep,e,c⟩:=x;exact⟨z,y,vs,r,ob,es,ep,k _ _ (.inl rfl) e,c⟩
 |dT kvs=>
  obtain⟨z,y,xs,r,ob,es,ep,e,c⟩:=x
  exact⟨z,y,xs,Paired.mapP r λp q z=>⟨z.1,ht _ _ z.2.1,z.2.2⟩,ob,es,ep,k _ _ (.inl rfl) e,c⟩
 |set S n=>obtain ⟨ob,es,ep,t,e,c⟩:=x;exact⟨ob,es,ep,t,k _ _ (.inl rfl) e,c⟩
 |ins C dx fs=>
  obtain⟨d,z,ne,e,mA,⟨od,es,ep,e2,c⟩,r⟩:=x
  exact⟨ho _ d,z,ne,k _ _ (.inl rfl) e,mA,⟨od,es,ep,k _ _ (.inr d) e2,c⟩,r⟩
 |own y=>obtain ⟨ob,e⟩:=x;exact⟨ob,k _ _ (.inl rfl) e⟩
 |xd fs=>obtain ⟨mA,⟨od,es,ep,e,c⟩,r⟩:=x;exact⟨mA,⟨od,es,ep,k _ _ (.inl rfl) e,c⟩,r⟩
 |rng lo hi=>obtain ⟨t,u,v,e⟩:=x;exact⟨t,u,v,k _ _ (.inl rfl) e⟩
 |frz ob u ih=>obtain ⟨e,q⟩:=x;exact⟨k _ _ (.inl rfl) e,ih q⟩
 |tbl ps=>
  have e:h.get? a=some {cls:= .none,data:= .fields ps}:=x
  show h'.get? a=some {cls:= .none,data:= .fields ps}
  exact k a _ (.inl rfl) e
 |met f y=>
  have e:h.get? a=some (PySem.W.methodObj (.ref f) (.ref y)):=x
  show h'.get? a=some (PySem.W.methodObj (.ref f) (.ref y))
  exact k a _ (.inl rfl) e
 |ext φ=>obtain ⟨p,⟨o,e⟩,st⟩:=x;exact⟨st _ _ p λo q=>k _ _ (.inl rfl) q,⟨o,k _ _ (.inl rfl) e⟩,st⟩
theorem HOk.lt(x:HOk P w H h)(e:H a=some o):a<h.objs.size:=(x a o e).lt
theorem HOk.fresh(x:HOk P w H h)(e:h.objs.size<=a):H a=none:=by
 cases q:H a with
 |none=>rfl
 |some u=>exact absurd (Nat.lt_of_lt_of_le (x.lt q) e) (Nat.lt_irrefl _)
theorem HOk.kept(x:HOk P w H h)(k:∀b u,h.get? b=some u->h'.get? b=some u):HOk P w H h':=λa o e=>
 (x a o e).stay (λb u _ q=>k b u q) (λ_ q=>q) λ_ _ q=>q
theorem HOk.laid(x:HOk P w H h)(k:∀b u,h.get? b=some u->h'.get? b=some u)(hp:h.objs.size<=a)(new:ObjOk P w (upd H a o) h' a o):HOk P w (upd H a o) h':=λb u e=>by
 have hn:=x.fresh hp
 by_cases hb:b=a
 ·subst hb;rw[zb] at e;cases e;exact new
 ·rw[ze hb] at e
  exact(x b u e).stay (λc v _ q=>k c v q) (λc q=>by rw[ze (zh q hn)];exact q) λc xs q=>by rw[ze (zh q hn)];exact q
end
def Rd(H:Hp)(a:Addr)(u:HO):Prop:=H a=some u\/∃o,H a=some (.frz o u)
theorem Rd.ok{P:Program}{w:World}{H:Hp}{h:Heap}{a:Addr}{u:HO}(r:Rd H a u)(x:HOk P w H h):ObjOk P w H h a u:=by
 rcases r with r|⟨o,r⟩
 ·exact x a u r
 ·obtain ⟨_,q⟩:=x a _ r
  exact q
def Mut:Option HO->Prop
 |some (.lst _)=>True
 |some (.dK _)=>True
 |some (.dT _)=>True
 |some (.set _ _)=>True
 |some (.ins _ _ _)=>True
 |some (.ext _)=>True
 |_=>False
section
variable{P:Program}{w:World}{H:Hp}{h h':Heap}{x e:Addr}{o':HO}
theorem HOk.write(ok:HOk P w H h)(mu:Mut (H x))(he:e=x\/H e=some (.own x))(k:∀b u,b≠e->h.get? b=some u->h'.get? b=some u)(heo:∃u,h'.get? e=some u)
 (new:ObjOk P w (upd H x o') h' x o'):HOk P w (upd H x o') h':=λb u q=>by
 have nown:∀c y,H c=some (.own y)->c≠x:=λc y r z=>by subst z;rw[r] at mu;exact mu
 have ntup:∀c xs,H c=some (.tup xs)->c≠x:=λc xs r z=>by subst z;rw[r] at mu;exact mu
 by_cases hb:b=x
 ·subst hb;rw[zb] at q;cases q;exact new
 ·rw[ze hb] at q
  by_cases hbe:b=e
  ·have q':H b=some (.own x):=by
    rcases he with z|z
    ·exact absurd (hbe.trans z) hb
    ·rw[hbe];exact z
   rw[q] at q';cases q'
   obtain⟨v,hv⟩:=heo
   exact⟨v,by rw[hbe];exact hv⟩
  ·refine (ok b u q).stay (λc v hc r=>k c v ?_ r) (λc r=>by rw[ze (nown c b r)];exact r) λc xs r=>by rw[ze (ntup c xs r)];exact r
   rcases hc with rfl|hc
   ·exact hbe
   ·rintro rfl
    rcases he with z|z
    ·exact nown c b hc z
    ·rw[hc] at z;cases z;exact hb rfl
end
structure Un(fs ex:List Addr)(H H':Hp)(h h':Heap):Prop where
 keep:∀b o,h.get? b=some o->H b=none->b∉fs->b∉ex->h'.get? b=some o
 slot:∀b o,h.get? b=some o->H b=none->b∈fs->b∉ex->∃sl,h'.get? b=some {o with slots:=sl}
 free:∀b o,h.get? b=some o->H b=none->b∉ex->H' b=none
 there:∀b o,h.get? b=some o->b∉ex->∃o',h'.get? b=some o'
 tups:∀b xs,H b=some (.tup xs)->H' b=some (.tup xs)
 frzs:∀b o u,H b=some (.frz o u)->H' b=some (.frz o u)
 tbls:∀b ps,H b=some (.tbl ps)->∃more,H' b=some (.tbl (ps ++more))
section
variable{fs fs' ex ex':List Addr}{H H1 H2:Hp}{h h1 h2 h':Heap}{a x e:Addr}{o:HO}
theorem Un.any(u:Un fs ex H H1 h h1){b:Addr}{ob:Obj}(q:h.get? b=some ob)(n:H b=none)(hx:b∉ex):∃sl,h1.get? b=some {ob with slots:=sl}:=by
 by_cases hb:b∈fs
 ·exact u.slot b ob q n hb hx
 ·exact ⟨ob.slots,u.keep b ob q n hb hx⟩
theorem Un.kept(k:∀b u,h.get? b=some u->h'.get? b=some u):Un fs ex H H h h':=
 ⟨λb ob q _ _ _=>k b ob q,λb ob q _ _ _=>⟨ob.slots,k b ob q⟩,λ_ _ _ n _=>n,λb ob q _=>⟨ob,k b ob q⟩,λ_ _ q=>q,λ_ _ _ q=>q,λ_ ps q=>⟨#[],by rw[q];simp⟩⟩
theorem Un.refl:Un fs ex H H h h:=Un.kept λ_ _ q=>q
theorem Un.laid(k:∀b u,h.get? b=some u->h'.get? b=some u)(hp:h.objs.size<=a)(hn:H a=none):Un fs ex H (upd H a o) h h' where
 keep:=λb u q _ _ _=>k b u q
 slot:=λb u q _ _ _=>⟨u.slots,k b u q⟩
 free:=λb u q n _=>by rw[ze (Nat.ne_of_lt (Nat.lt_of_lt_of_le (Heap.lt_size q) hp))];exact n
 there:=λb u q _=>⟨u,k b u q⟩
 tups:=λb xs q=>by rw[ze (zh q hn)];exact q
 frzs:=λb u xs q=>by rw[ze (zh q hn)];exact q
 tbls:=λb ps q=>⟨#[],by rw[ze (zh q hn),q];simp⟩
theorem Un.write(mu:Mut (H x))(he:e=x\/H e=some (.own x))(k:∀b u,b≠e->h.get? b=some u->h'.get? b=some u)(heo:∃u,h'.get? e=some u):Un fs ex H (upd H x o) h h':=by
 have hx:∀b,H b=none->b≠x:=λb n z=>by subst z;rw[n] at mu;exact mu
 have hb:∀b,H b=none->b≠e:=λb n z=>by
  subst z
  rcases he with r|r
  ·exact hx b n r
  ·rw[n] at r;cases r
 have hm:∀b u,H b=some u->¬Mut (some u)->b≠x:=λb u q nm z=>by subst z;rw[q] at mu;exact nm mu
 refine⟨λb u q n _ _=>k b u (hb b n) q,λb u q n _ _=>⟨u.slots,k b u (hb b n) q⟩,λb u q n _=>by rw[ze (hx b n)];exact n,λb u q _=>?_,
  λb xs q=>by rw[ze (hm b _ q λz=>z)];exact q,λb u xs q=>by rw[ze (hm b _ q λz=>z)];exact q,λb ps q=>⟨#[],by rw[ze (hm b _ q λz=>z),q];simp⟩⟩
 by_cases hbe:b=e
 ·subst hbe;exact heo
 ·exact ⟨u,k b u hbe q⟩
end
noncomputable def trk(h:Heap)(H:Hp):List Addr:=(List.range h.objs.size).filter λa=>(H a).isSome
noncomputable def zgJ(h:Heap)(H:Hp):Heap:=PySem.W.hideAll h (trk h H)
theorem zkL(h:Heap)(H:Hp):(zgJ h H).objs.size=h.objs.size:=PySem.W.hideAll_size _ _
theorem zlz{h:Heap}{H:Hp}{b:Addr}{o:Obj}(e:h.get? b=some o)(n:H b=none):(zgJ h H).get? b=some o:=
 PySem.W.hideAll_get _ e λhm=>by
  have q:(H b).isSome=true:=(List.mem_filter.mp hm).2
  rw[n] at q;simp at q
theorem znM{h:Heap}{H:Hp}{b:Addr}{o:Obj}(e:(zgJ h H).get? b=some o):h.get? b=some o/\H b=none:=by
 have e':h.get? b=some o:=PySem.W.of_hideAll (trk h H) e
 refine⟨e',?_⟩
 cases q:H b with
 |none=>rfl
 |some x=>
  have hm:b∈trk h H:=List.mem_filter.mpr ⟨List.mem_range.mpr (Heap.lt_size e'),by simp[q]⟩
  have z:(zgJ h H).get? b=none:=PySem.W.hideAll_none (trk h H) hm
  rw[z] at e;cases e
structure Mod(K:PySem.W.Frag)(mg:Str->Option Value)(base:Heap):Prop where
 kin:K.In base
 glob:base.Ns mainGlobals mg
 blt:∃mb,base.Ns builtinsNs mb/\∀x:Str,x≠"__name__"->mb x=bootBuiltins x
 nolimit:base.NoLimit
structure Cx where
 prog:Program
 w:World
 K:PySem.W.Frag
 mg:Str->Option Value
 base:Heap
 A:Around
 N:List Str
 s₀:Shared
 H₀:Hp
 env:Env
 outer:List Env
 stack:List Env
 ex:List Addr
 fn:Str->Bool
 calm:Bool
 pn:List (Addr×Obj)
 xe:Value->Shared->Prop
noncomputable def frs(l:List Env):List Addr:=l.filterMap (·.frame)
noncomputable abbrev Cx.fs(X:Cx):List Addr:=frs X.outer
def Vis(sc:Scope)(x:Str):Prop:=sc.names.lookup x=some .local\/sc.names.lookup x=some .cell\/sc.names.lookup x=some .free
def Loc(sc:Scope)(x:Str):Prop:=sc.names.lookup x=some .local\/sc.names.lookup x=some .cell
def zqb(env:Env)(h:Heap)(m:Str->Option Value)(x:Str)(u:Value):Prop:=
 (env.kindOf x=some .local/\m x=some u)\/((env.kindOf x=some .cell\/env.kindOf x=some .free)/\∃c,env.cells.lookup x=some c/\h.IsCell c (some u))
structure Cx.Ok(X:Cx):Prop where
 mod:Mod X.K X.mg X.base
 kind:X.env.scope.kind= .function
 glob:X.env.globals=mainGlobals
 blt:X.env.builtins=builtinsNs
 above:X.s₀.heap.objs.size<=X.env.locals
 inj:∀x y c,X.env.cells.lookup x=some c->X.env.cells.lookup y=some c->x=y
 has:∀x,(X.env.kindOf x=some .cell\/X.env.kindOf x=some .free)->∃c,X.env.cells.lookup x=some c
 cab:∀x c,X.fn x=true->X.env.cells.lookup x=some c->X.s₀.heap.objs.size<=c
 hd:X.calm=true->X.A.handled=none
 frames:X.A.frames=some X.stack
 stk:X.stack=X.outer\/(X.stack=X.env::X.outer/\X.env.frame=some X.env.locals)
 exf:∀b∈X.ex,b≠X.env.locals/\∀x c,X.env.cells.lookup x=some c->c≠b
 bs:∀b o,X.base.get? b=some o->X.s₀.heap.get? b=some o/\X.H₀ b=none
 bsz:X.base.objs.size<=X.s₀.heap.objs.size
 noex:∀b o,X.base.get? b=some o->b∉X.ex
 exfs:∀b∈X.ex,b∉X.fs
 funs:X.s₀.heap.FunFrames X.base X.outer
 frf:∀b∈X.fs,X.H₀ b=none
structure Inv(X:Cx)(pins:List (Addr×Obj))(σ:List (Option V))(H:Hp)(s:Shared):Prop where
 ok:X.Ok
 os:s.os=X.s₀.os
 bare:AllBare s.gens
 base:Un X.fs X.ex X.H₀ H X.s₀.heap s.heap
 loc:∃m,s.heap.Ns X.env.locals m/\∀(i:Nat) (x:Str) (v:V),X.N[i]?=some x->σ[i]?=some (some v)->Vis X.env.scope x->∃u,RelV v u/\zqb X.env s.heap m x u
 cell:∀x c,X.env.cells.lookup x=some c->∃v,s.heap.IsCell c v
 free:H X.env.locals=none
 freeC:∀x c,X.env.cells.lookup x=some c->H c=none
 pin:∀p∈X.pn ++pins,s.heap.get? p.1=some p.2/\H p.1=none/\p.1≠X.env.locals/\p.1∉X.fs/\∀v,p.2.data≠ .cell v
 hok:HOk X.prog X.w H s.heap
 len:σ.length=X.N.length
section
variable{X:Cx}{pins:List (Addr×Obj)}{σ:List (Option V)}{H H':Hp}{s:Shared}{h':Heap}
theorem Cx.Ok.nofr(ok:X.Ok){b:Addr}{o:Obj}(e:X.base.get? b=some o):b∉X.fs:=λhb=>by
 have:=(ok.funs.mem hb).1
 rw[e] at this;cases this
theorem Inv.bs(I:Inv X pins σ H s):∀b o,X.base.get? b=some o->s.heap.get? b=some o/\H b=none:=λb o e=>
 ⟨I.base.keep b o (I.ok.bs b o e).1 (I.ok.bs b o e).2 (I.ok.nofr e) (I.ok.noex b o e),I.base.free b o (I.ok.bs b o e).1 (I.ok.bs b o e).2 (I.ok.noex b o e)⟩
theorem Inv.bk(I:Inv X pins σ H s):∀b o,X.base.get? b=some o->s.heap.get? b=some o:=λb o e=>(I.bs b o e).1
theorem Inv.mod(I:Inv X pins σ H s):Mod X.K X.mg X.base:=I.ok.mod
theorem Inv.kIn(I:Inv X pins σ H s):X.K.In s.heap:=I.ok.mod.kin.keeps I.bk
theorem Inv.lt(I:Inv X pins σ H s):X.env.locals<s.heap.objs.size:=let⟨_,hn,_⟩:=I.loc;hn.lt
theorem Inv.sz(I:Inv X pins σ H s):X.s₀.heap.objs.size<=s.heap.objs.size:=Nat.le_trans I.ok.above (Nat.le_of_lt I.lt)
theorem Inv.nofs(I:Inv X pins σ H s){a:Addr}(h:s.heap.objs.size<=a):a∉X.fs:=λhb=>by
 obtain⟨_,o,ho,_⟩:=I.ok.funs.mem hb
 exact absurd (Nat.lt_of_lt_of_le (Heap.lt_size ho) (Nat.le_trans I.sz h)) (Nat.lt_irrefl _)
theorem Inv.cne(I:Inv X pins σ H s):∀x c,X.env.cells.lookup x=some c->c≠X.env.locals:=λx c e z=>by
 obtain⟨v,o,ho,hd⟩:=I.cell x c e
 obtain⟨m,⟨o',es,ep,ho',hd',_⟩,_⟩:=I.loc
 rw[z,ho'] at ho;cases ho;rw[hd'] at hd;cases hd
theorem Inv.funs(I:Inv X pins σ H s):s.heap.FunFrames X.base X.outer:=by
 have all:∀(l:List Env),(∀b∈frs l,b∈X.fs)->X.s₀.heap.FunFrames X.base l->s.heap.FunFrames X.base l:=by
  intro l
  induction l with
  |nil=>intro _ _;trivial
  |cons env r ih=>
   intro hs hl
   obtain⟨hk,⟨L,o,hf,hn,ho,hd⟩,hr⟩:=hl
   have hL:L∈X.fs:=hs L (by unfold frs;rw[List.filterMap_cons,hf];exact List.mem_cons_self)
   obtain⟨sl,e⟩:=I.base.slot L o ho (I.ok.frf L hL) hL λz=>I.ok.exfs L z hL
   exact⟨hk,⟨L,_,hf,hn,e,hd⟩,ih (λb hb=>hs b (by unfold frs;rw[List.filterMap_cons,hf];exact List.mem_cons_of_mem _ hb)) hr⟩
 exact all X.outer (λ_ hb=>hb) I.ok.funs
theorem Inv.stack(I:Inv X pins σ H s):s.heap.FunFrames X.base X.stack:=by
 rcases I.ok.stk with e|⟨e,hf⟩
 ·rw[e];exact I.funs
 ·rw[e]
  obtain⟨m,hn,_⟩:=I.loc
  refine .cons (by rw[I.ok.kind];decide) hf hn ?_ I.funs
  exact Heap.get?_none_of_le (Nat.le_trans I.ok.bsz I.ok.above)
theorem Inv.stkSub(I:Inv X pins σ H s):∀b∈frs X.stack,b∈X.env.locals::X.fs:=λb hb=>by
 rcases I.ok.stk with e|⟨e,hf⟩
 ·rw[e] at hb;exact List.mem_cons_of_mem _ hb
 ·rw[e] at hb
  unfold frs at hb
  rw[List.filterMap_cons,hf] at hb
  exact hb
theorem Inv.stkFree(I:Inv X pins σ H s):∀b∈frs X.stack,H b=none:=λb hb=>by
 rcases List.mem_cons.mp (I.stkSub b hb)with e|hb
 ·rw[e];exact I.free
 ·obtain ⟨_,o,ho,_⟩:=I.ok.funs.mem hb
  exact I.base.free b o ho (I.ok.frf b hb) λz=>I.ok.exfs b z hb
theorem Inv.step{g':Array GenState}{t':Nat}{d':Drawn}{ch:List Addr}(I:Inv X pins σ H s)
 (hch:∀b∈ch,(b∈X.ex\/X.s₀.heap.objs.size<=b)/\b≠X.env.locals/\(∀x c,X.env.cells.lookup x=some c->c≠b)/\∀p∈X.pn ++pins,p.1≠b)
 (keep:∀b o,b≠X.env.locals->b∉X.fs->b∉ch->s.heap.get? b=some o->H b=none->h'.get? b=some o)
 (slot:∀b o,b≠X.env.locals->b∈X.fs->b∉ch->s.heap.get? b=some o->H b=none->∃sl,h'.get? b=some {o with slots:=sl}) (free:∀b o,b∉ch->s.heap.get? b=some o->H b=none->H' b=none)
 (there:∀b o,b∉ch->s.heap.get? b=some o->∃o',h'.get? b=some o')
 (tups:∀b xs,H b=some (.tup xs)->H' b=some (.tup xs)) (frzs:∀b o u,H b=some (.frz o u)->H' b=some (.frz o u)) (tbls:∀b ps,H b=some (.tbl ps)->∃more,H' b=some (.tbl (ps ++more)))
 (ns:∀m,s.heap.Ns X.env.locals m->h'.Ns X.env.locals m) (hok:HOk X.prog X.w H' h') (hg:AllBare g'):
 Inv X pins σ H' {s with heap:=h',gens:=g',drawn:=d',toks:=t'}:=by
 have neL:∀b o,X.s₀.heap.get? b=some o->b≠X.env.locals:=λb o e=>Nat.ne_of_lt (Nat.lt_of_lt_of_le (Heap.lt_size e) I.ok.above)
 have neC:∀b o,X.s₀.heap.get? b=some o->b∉X.ex->b∉ch:=λb o e hx hb=>by
  rcases(hch b hb).1 with z|z
  ·exact hx z
  ·exact absurd (Nat.lt_of_lt_of_le (Heap.lt_size e) z) (Nat.lt_irrefl _)
 have cellK:∀x c,X.env.cells.lookup x=some c->∀v,s.heap.IsCell c v->h'.IsCell c v:=λx c e v ⟨o,ho,hd⟩=>by
  have nch:c∉ch:=λz=>(hch c z).2.2.1 x c e rfl
  by_cases hc:c∈X.fs
  ·obtain ⟨sl,q⟩:=slot c o (I.cne x c e) hc nch ho (I.freeC x c e)
   exact⟨_,q,hd⟩
  ·exact ⟨o,keep c o (I.cne x c e) hc nch ho (I.freeC x c e),hd⟩
 refine⟨I.ok,I.os,hg,⟨λb o e n hb hx=>?_,λb o e n hb hx=>?_,λb o e n hx=>?_,λb o e hx=>?_,λb xs e=>tups b xs (I.base.tups b xs e),λb o xs e=>frzs b o xs (I.base.frzs b o xs e),λb ps e=>?_⟩,?_,λx c e=>?_,?_,λx c e=>?_,λp hp=>?_,hok,I.len⟩
 ·exact keep b o (neL b o e) hb (neC b o e hx) (I.base.keep b o e n hb hx) (I.base.free b o e n hx)
 ·obtain ⟨sl,e1⟩:=I.base.slot b o e n hb hx
  obtain⟨sl',e2⟩:=slot b _ (neL b o e) hb (neC b o e hx) e1 (I.base.free b o e n hx)
  exact⟨sl',e2⟩
 ·obtain ⟨o',e1⟩:=I.base.there b o e hx
  exact free b o' (neC b o e hx) e1 (I.base.free b o e n hx)
 ·obtain ⟨o',e1⟩:=I.base.there b o e hx
  exact there b o' (neC b o e hx) e1
 ·obtain ⟨m1,e1⟩:=I.base.tbls b ps e
  obtain⟨m2,e2⟩:=tbls b _ e1
  exact⟨m1 ++m2,by rw[e2,Array.append_assoc]⟩
 ·obtain ⟨m,hn,hl⟩:=I.loc
  refine⟨m,ns m hn,λi x v e1 e2 e3=>?_⟩
  obtain⟨u,r,l⟩:=hl i x v e1 e2 e3
  refine⟨u,r,?_⟩
  rcases l with l|⟨k,c,e,z⟩
  ·exact .inl l
  ·exact .inr ⟨k,c,e,cellK x c e _ z⟩
 ·obtain ⟨v,z⟩:=I.cell x c e
  exact⟨v,cellK x c e v z⟩
 ·obtain ⟨m,⟨o,_,_,ho,_⟩,_⟩:=I.loc
  exact free _ o (λz=>(hch _ z).2.1 rfl) ho I.free
 ·obtain ⟨v,o,ho,hd⟩:=I.cell x c e
  exact free c o (λz=>(hch c z).2.2.1 x c e rfl) ho (I.freeC x c e)
 ·obtain ⟨e,n,ne,nf,d⟩:=I.pin p hp
  have nch:p.1∉ch:=λz=>(hch p.1 z).2.2.2 p hp rfl
  exact⟨keep p.1 p.2 ne nf nch e n,free p.1 p.2 nch e n,ne,nf,d⟩
theorem Inv.un{t':Nat}(I:Inv X pins σ H s)(u:Un X.fs [] H H' s.heap h')(hok:HOk X.prog X.w H' h'):Inv X pins σ H' {s with heap:=h',toks:=t'}:=by
 obtain⟨m,⟨o,es,ep,ho,r⟩,_⟩:=id I.loc
 obtain⟨sl,hL⟩:=u.any ho I.free (by simp)
 exact I.step (g':=s.gens) (d':=s.drawn) (ch:=[]) (λ_ z=>nomatch z) (λb o _ hb _ e n=>u.keep b o e n hb (by simp)) (λb o _ hb _ e n=>u.slot b o e n hb (by simp)) (λb o _ e n=>u.free b o e n (by simp)) (λb o _ e=>u.there b o e (by simp)) u.tups u.frzs u.tbls (λm' hm=>by
  obtain⟨o',es',ep',ho',r'⟩:=hm
  rw[ho] at ho';cases ho'
  exact⟨_,es',ep',hL,r'⟩) hok I.bare
theorem Inv.call{g':Array GenState}{t':Nat}{d':Drawn}{ch:List Addr}(I:Inv X pins σ H s)(u:Un (frs X.stack) ch H H' s.heap h')(hok:HOk X.prog X.w H' h')(hg:AllBare g')
 (hch:∀b∈ch,(b∈X.ex\/X.s₀.heap.objs.size<=b)/\b≠X.env.locals/\(∀x c,X.env.cells.lookup x=some c->c≠b)/\∀p∈X.pn ++pins,p.1≠b):
 Inv X pins σ H' {s with heap:=h',gens:=g',drawn:=d',toks:=t'}:=by
 obtain⟨m,⟨o,es,ep,ho,r⟩,_⟩:=id I.loc
 obtain⟨sl,hL⟩:=u.any ho I.free λz=>(hch _ z).2.1 rfl
 exact I.step (ch:=ch) hch (λb o hL hb hc e n=>u.keep b o e n (λz=>(List.mem_cons.mp (I.stkSub b z)).elim hL hb) hc) (λb o _ _ hc e n=>u.any e n hc) (λb o hc e n=>u.free b o e n hc) (λb o hc e=>u.there b o e hc) u.tups u.frzs u.tbls (λm' hm=>by
  obtain⟨o',es',ep',ho',r'⟩:=hm
  rw[ho] at ho';cases ho'
  exact⟨_,es',ep',hL,r'⟩) hok hg
theorem Inv.turned{t':Nat}{it:Addr}(I:Inv X pins σ H s)(k:∀b o,b≠it->s.heap.get? b=some o->h'.get? b=some o)(hn:H it=none)(hL:it≠X.env.locals)
 (h1:it∈X.ex\/X.s₀.heap.objs.size<=it) (h2:∀x c,X.env.cells.lookup x=some c->c≠it) (h3:∀p∈X.pn ++pins,p.1≠it):Inv X pins σ H {s with heap:=h',toks:=t'}:=by
 have nit:∀b u,H b=some u->b≠it:=λb u e z=>by rw[z,hn] at e;cases e
 refine I.step (g':=s.gens) (d':=s.drawn) (ch:=[it]) (λb hb=>?_) (λb o _ _ hc e _=>k b o (λz=>hc (by simp[z])) e) (λb o _ _ hc e _=>⟨o.slots,k b o (λz=>hc (by simp[z])) e⟩) (λ_ _ _ _ n=>n)
  (λb o hc e=>⟨o,k b o (λz=>hc (by simp[z])) e⟩) (λ_ _ e=>e) (λ_ _ _ e=>e) (λb ps e=>⟨#[],by rw[e];simp⟩) (λm hm=>?_) (λb u e=>?_) I.bare
 ·have e:b=it:=by simpa using hb
  subst e
  exact⟨h1,hL,h2,h3⟩
 ·obtain ⟨o,es,ep,ho,r⟩:=hm
  exact⟨o,es,ep,k _ o (Ne.symm hL) ho,r⟩
 ·refine (I.hok b u e).stay (λc v hc q=>k c v ?_ q) (λ_ q=>q) λ_ _ q=>q
  rcases hc with z|z
  ·rw[z];exact nit b u e
  ·exact nit c _ z
theorem Inv.tok(I:Inv X pins σ H s)(t:Nat):Inv X pins σ H {s with toks:=t}:=I.un (h':=s.heap) (t':=t) Un.refl I.hok
theorem Inv.kept{t':Nat}(I:Inv X pins σ H s)(k:∀b u,s.heap.get? b=some u->h'.get? b=some u):Inv X pins σ H {s with heap:=h',toks:=t'}:=I.un (Un.kept k) (I.hok.kept k)
theorem Inv.laid{a:Addr}{o:HO}{t':Nat}(I:Inv X pins σ H s)(k:∀b u,s.heap.get? b=some u->h'.get? b=some u)(hp:s.heap.objs.size<=a)(new:ObjOk X.prog X.w (upd H a o) h' a o):
 Inv X pins σ (upd H a o) {s with heap:=h',toks:=t'}:=I.un (Un.laid k hp (I.hok.fresh hp)) (I.hok.laid k hp new)
theorem Inv.write{x e:Addr}{o:HO}{t':Nat}(I:Inv X pins σ H s)(mu:Mut (H x))(he:e=x\/H e=some (.own x))(k:∀b u,b≠e->s.heap.get? b=some u->h'.get? b=some u)(heo:∃u,h'.get? e=some u)
 (new:ObjOk X.prog X.w (upd H x o) h' x o):Inv X pins σ (upd H x o) {s with heap:=h',toks:=t'}:=I.un (Un.write mu he k heo) (I.hok.write mu he k heo new)
theorem Inv.pins_of{pins':List (Addr×Obj)}(I:Inv X pins σ H s)(h:∀p∈pins',s.heap.get? p.1=some p.2/\H p.1=none/\p.1≠X.env.locals/\p.1∉X.fs/\∀v,p.2.data≠ .cell v):Inv X pins' σ H s:=
 ⟨I.ok,I.os,I.bare,I.base,I.loc,I.cell,I.free,I.freeC,λp hp=>(List.mem_append.mp hp).elim (λz=>I.pin p (List.mem_append_left _ z)) (h p),I.hok,I.len⟩
theorem zhj{N:List Str}(hN:N.Nodup){i j:Nat}{x:Str}(a:N[i]?=some x)(b:N[j]?=some x):i=j:=by
 obtain⟨h1,e1⟩:=List.getElem?_eq_some_iff.mp a
 obtain⟨h2,e2⟩:=List.getElem?_eq_some_iff.mp b
 exact(List.getElem_inj hN).mp (e1.trans e2.symm)
theorem zkN{M:Model}{A:Around}{E:Value->Shared->Prop}{i:Nat}{x:Str}{v:V}{u:Value}{Q:Unit->Shared->Prop}(I:Inv X pins σ H s)(hN:X.N.Nodup)(hi:X.N[i]?=some x)(hx:Loc X.env.scope x)(r:RelV v u)
 (h:∀s',Inv X pins (σ.set i (some v)) H s'->(∃a,Heap.SameBut a s.heap s'.heap/\(a=X.env.locals\/X.env.cells.lookup x=some a))->Q () s') (hf:X.fn x=true\/X.env.scope.names.lookup x=some .local:=by first|exact .inl rfl|exact .inr rfl|assumption):wpAny M A (storeName X.env x u) Q E s:=by
 obtain⟨m,hn,hl⟩:=id I.loc
 have hcls:(X.env.scope.kind== .class||(X.env.scope.kind== .module&&X.env.locals !=X.env.globals))=false:=by rw[I.ok.kind];rfl
 have hiσ:i<σ.length:=by rw[I.len];exact(List.getElem?_eq_some_iff.mp hi).1
 have cne:=I.cne
 have tracked:∀{a:Addr} {h':Heap},(∃o,s.heap.get? a=some o/\H a=none)->Heap.SameBut a s.heap h'->HOk X.prog X.w H h':=λ{a h'} ha hs b ob e=>by
  obtain⟨_,_,hfree⟩:=ha
  refine(I.hok b ob e).stay (λc w' hc q=>(hs.2 c ?_).trans q) (λ_ q=>q) λ_ _ q=>q
  rintro rfl
  rcases hc with rfl|hc
  ·rw[hfree] at e;cases e
  ·rw[hfree] at hc;cases hc
 rcases hx with hk|hk
 ·refine wpAny_storeName_local hk hn (λh' hn' hs=>?_) hcls
  obtain⟨oL,_,_,hoL,_⟩:=id hn
  refine h _ ⟨I.ok,I.os,I.bare,⟨λb o e n hb hx=>?_,λb o e n hb hx=>?_,I.base.free,λb o e hx=>?_,I.base.tups,I.base.frzs,I.base.tbls⟩,⟨_,hn',λj y v' e1 e2 e3=>?_⟩,λy c e=>?_,I.free,I.freeC,λp hp=>?_,tracked ⟨oL,hoL,I.free⟩ hs,by simpa using I.len⟩ ⟨_,hs, .inl rfl⟩
  ·exact (hs.2 b (Nat.ne_of_lt (Nat.lt_of_lt_of_le (Heap.lt_size e) I.ok.above))).trans (I.base.keep b o e n hb hx)
  ·obtain ⟨sl,e1⟩:=I.base.slot b o e n hb hx
   exact⟨sl,(hs.2 b (Nat.ne_of_lt (Nat.lt_of_lt_of_le (Heap.lt_size e) I.ok.above))).trans e1⟩
  ·obtain ⟨o',e1⟩:=I.base.there b o e hx
   exact⟨o',(hs.2 b (Nat.ne_of_lt (Nat.lt_of_lt_of_le (Heap.lt_size e) I.ok.above))).trans e1⟩
  ·by_cases hj:j=i
   ·subst hj
    rw[hi] at e1;cases e1
    rw[List.getElem?_set_self hiσ] at e2
    cases e2
    exact⟨u,r, .inl ⟨hk,by simp⟩⟩
   ·rw[List.getElem?_set_ne (Ne.symm hj)] at e2
    obtain⟨u',r',q⟩:=hl j y v' e1 e2 e3
    refine⟨u',r',?_⟩
    rcases q with⟨k,e⟩|⟨k,c,e,z⟩
    ·refine .inl ⟨k,?_⟩
     have:y≠x:=λe=>hj (zhj hN e1 (e▸hi))
     simp[this,e]
    ·exact .inr ⟨k,c,e,z.sameBut hs (cne y c e)⟩
  ·obtain ⟨w',z⟩:=I.cell y c e
   exact⟨w',z.sameBut hs (cne y c e)⟩
  ·obtain ⟨e,n,ne,nf,d⟩:=I.pin p hp
   exact⟨(hs.2 p.1 ne).trans e,n,ne,nf,d⟩
 ·have hfn:X.fn x=true:=by
   rcases hf with z|z
   ·exact z
   ·rw[z] at hk;cases hk
  obtain⟨c,hc⟩:=I.ok.has x (.inl hk)
  obtain⟨w',z⟩:=I.cell x c hc
  refine wpAny_storeName_cell I.ok.kind hk hc z (λh' hc' hs=>?_)
  obtain⟨oc,hoc,hocd⟩:=id z
  refine h {s with heap:=h'} ⟨I.ok,I.os,I.bare,⟨λb o e n hb hx=>?_,λb o e n hb hx=>?_,I.base.free,λb o e hx=>?_,I.base.tups,I.base.frzs,I.base.tbls⟩,⟨m,hn.sameBut hs (Ne.symm (cne x c hc)),λj y v' e1 e2 e3=>?_⟩,λy c' e=>?_,I.free,I.freeC,λp hp=>?_,tracked ⟨oc,hoc,I.freeC x c hc⟩ hs,by simpa using I.len⟩ ⟨c,hs, .inr hc⟩
  ·exact (hs.2 b (Nat.ne_of_lt (Nat.lt_of_lt_of_le (Heap.lt_size e) (I.ok.cab x c hfn hc)))).trans (I.base.keep b o e n hb hx)
  ·obtain ⟨sl,e1⟩:=I.base.slot b o e n hb hx
   exact⟨sl,(hs.2 b (Nat.ne_of_lt (Nat.lt_of_lt_of_le (Heap.lt_size e) (I.ok.cab x c hfn hc)))).trans e1⟩
  ·obtain ⟨o',e1⟩:=I.base.there b o e hx
   exact⟨o',(hs.2 b (Nat.ne_of_lt (Nat.lt_of_lt_of_le (Heap.lt_size e) (I.ok.cab x c hfn hc)))).trans e1⟩
  ·by_cases hj:j=i
   ·subst hj
    rw[hi] at e1;cases e1
    rw[List.getElem?_set_self hiσ] at e2
    cases e2
    exact⟨u,r, .inr ⟨.inl hk,c,hc,hc'⟩⟩
   ·rw[List.getElem?_set_ne (Ne.symm hj)] at e2
    obtain⟨u',r',q⟩:=hl j y v' e1 e2 e3
    refine⟨u',r',?_⟩
    rcases q with q|⟨k,c',e,z'⟩
    ·exact .inl q
    ·refine .inr ⟨k,c',e,z'.sameBut hs ?_⟩
     rintro rfl
     exact hj (zhj hN e1 (I.ok.inj _ _ _ e hc▸hi))
  ·by_cases hcc:c'=c
   ·subst hcc;exact⟨_,hc'⟩
   ·obtain ⟨w2,z2⟩:=I.cell y c' e
    exact⟨w2,z2.sameBut hs hcc⟩
  ·obtain ⟨e,n,ne,nf,d⟩:=I.pin p hp
   refine⟨(hs.2 p.1 ?_).trans e,n,ne,nf,d⟩
   intro q
   rw[q,hoc] at e
   have q':oc=p.2:=Option.some.inj e
   exact d w' (by rw[←q'];exact hocd)
theorem zcW{M:Model}{A:Around}{E:Value->Shared->Prop}{i:Nat}{x:Str}{v:V}{u:Value}{Q:Unit->Shared->Prop}(I:Inv X pins σ H s)(hN:X.N.Nodup)(hi:X.N[i]?=some x)(hx:Loc X.env.scope x)(r:RelV v u)
 (h:∀s',Inv X pins (σ.set i (some v)) H s'->Q () s') (hf:X.fn x=true\/X.env.scope.names.lookup x=some .local:=by first|exact .inl rfl|exact .inr rfl|assumption):wpAny M A (storeName X.env x u) Q E s:=
 zkN I hN hi hx r (λs' I' _=>h s' I') hf
theorem Inv.call'{s':Shared}{ch:List Addr}(I:Inv X pins σ H s)(ho:s'.os=s.os)(u:Un (frs X.stack) ch H H' s.heap s'.heap)(hok:HOk X.prog X.w H' s'.heap)(hg:AllBare s'.gens)
 (hch:∀b∈ch,(b∈X.ex\/X.s₀.heap.objs.size<=b)/\b≠X.env.locals/\(∀x c,X.env.cells.lookup x=some c->c≠b)/\∀p∈X.pn ++pins,p.1≠b):Inv X pins σ H' s':=by
 obtain⟨h',g',d',t',o'⟩:=s'
 have e:o'=s.os:=ho
 subst e
 exact I.call (g':=g') (t':=t') (d':=d') u hok hg hch
end
noncomputable abbrev XK:=Value->Option Addr->Hp->Prop
noncomputable abbrev St:=List (Option V)
noncomputable abbrev VK:=V->Hp->Prop
noncomputable abbrev TE:=St->Hp->VK->Prop
noncomputable abbrev TT:=St->Hp->(Bool->Hp->Prop)->Prop
noncomputable abbrev TA:=St->Hp->(List V->Hp->Prop)->Prop
structure Ends where
 nx:St->Hp->Prop
 rt:VK
 bk:St->Hp->Prop:=λ_ _=>False
 ct:St->Hp->Prop:=λ_ _=>False
noncomputable abbrev TS:=Ends->St->Hp->Prop
def EP(X:Cx)(pins:List (Addr×Obj))(σ:St)(Q:VK)(u:Value)(s':Shared):Prop:=∃v H',Inv X pins σ H' s'/\RelV v u/\Q v H'
def TP(X:Cx)(pins:List (Addr×Obj))(σ:St)(Q:Bool->Hp->Prop)(b:Bool)(s':Shared):Prop:=∃H',Inv X pins σ H' s'/\Q b H'
def AP(X:Cx)(pins:List (Addr×Obj))(σ:St)(Q:List V->Hp->Prop)(us:List Value)(s':Shared):Prop:=∃vs H',Inv X pins σ H' s'/\Vals vs us/\Q vs H'
def SP(X:Cx)(pins:List (Addr×Obj))(D:Ends)(f:Flow)(s':Shared):Prop:=
 match f with
 | .next=>∃σ' H',Inv X pins σ' H' s'/\D.nx σ' H'
 | .brk=>∃σ' H',Inv X pins σ' H' s'/\D.bk σ' H'
 | .cont=>∃σ' H',Inv X pins σ' H' s'/\D.ct σ' H'
 | .ret u=>∃v σ' H',Inv X pins σ' H' s'/\RelV v u/\D.rt v H'
def PE(X:Cx)(e:Expr)(t:TE):Prop:=
 ∀(pins:List (Addr×Obj)) (s:Shared) (σ:St) (H:Hp) (Q:VK),Inv X pins σ H s->t σ H Q->wpAny (model X.prog X.w) X.A (eval e X.env) (EP X pins σ Q) X.xe s
def PT(X:Cx)(e:Expr)(t:TT):Prop:=
 ∀(pins:List (Addr×Obj)) (s:Shared) (σ:St) (H:Hp) (Q:Bool->Hp->Prop),Inv X pins σ H s->t σ H Q->wpAny (model X.prog X.w) X.A (isTrue e X.env (eval e X.env)) (TP X pins σ Q) X.xe s
def PW(X:Cx)(e:Expr)(t:TT):Prop:=
 ∀(whole:Sem Value) (pins:List (Addr×Obj)) (s:Shared) (σ:St) (H:Hp) (Q:Bool->Hp->Prop),Inv X pins σ H s->t σ H Q->wpAny (model X.prog X.w) X.A (isTrue e X.env whole) (TP X pins σ Q) X.xe s
theorem PW.pt{X:Cx}{e:Expr}{t:TT}(h:PW X e t):PT X e t:=h _
def PA(X:Cx)(es:List Expr)(t:TA):Prop:=
 ∀(pos:Pos) (pins:List (Addr×Obj)) (s:Shared) (σ:St) (H:Hp) (Q:List V->Hp->Prop),Inv X pins σ H s->t σ H Q->wpAny (model X.prog X.w) X.A (spliced (backTo pos (starEach es X.env))) (AP X pins σ Q) X.xe s
def PS(X:Cx)(st:Stmt)(t:TS):Prop:=
 ∀(pins:List (Addr×Obj)) (s:Shared) (σ:St) (H:Hp) (D:Ends),Inv X pins σ H s->t D σ H->wpAny (model X.prog X.w) X.A (exec st X.env) (SP X pins D) X.xe s
def PSs(X:Cx)(st:List Stmt)(t:TS):Prop:=
 ∀(pins:List (Addr×Obj)) (s:Shared) (σ:St) (H:Hp) (D:Ends),Inv X pins σ H s->t D σ H->wpAny (model X.prog X.w) X.A (execs st X.env) (SP X pins D) X.xe s
theorem thn{α:Type}{t:Sem α}{Q Q':α->Shared->Prop}{M:Model}{A:Around}{E:Value->Shared->Prop}{s:Shared}(h:wpAny M A t Q E s)(hQ:∀a s,Q a s->Q' a s):wpAny M A t Q' E s:=wpAny_mono h hQ λ_ _ x=>x
section
variable{X:Cx}
theorem bin{a b:Expr}{ta tb:TE}(ha:PE X a ta)(hb:PE X b tb){pins:List (Addr×Obj)}{s:Shared}{σ:St}{H:Hp}{R:V->V->Hp->Prop}(I:Inv X pins σ H s)(h:ta σ H λx H1=>tb σ H1 λy H2=>R x y H2)
 {α:Type} {Q:α->Shared->Prop} {f:Value->Value->Sem α}
 (hf:∀v u s2 x y H2,Inv X pins σ H2 s2->RelV x v->RelV y u->R x y H2->wpAny (model X.prog X.w) X.A (f v u) Q X.xe s2):
 wpAny (model X.prog X.w) X.A (eval a X.env) (λv s₁=>wpAny (model X.prog X.w) X.A (eval b X.env) (λu s₂=>wpAny (model X.prog X.w) X.A (f v u) Q X.xe s₂) X.xe s₁) X.xe s:=by
 refine thn (ha pins s σ H _ I h) λv s1 ⟨x,H1,I1,r1,q1⟩=>?_
 refine thn (hb pins s1 σ H1 _ I1 q1) λu s2 ⟨y,H2,I2,r2,q2⟩=>?_
 exact hf v u s2 x y H2 I2 r1 r2 q2
noncomputable def zm0(i:Nat):TE:=λσ H Q=>∃v,σ[i]?=some (some v)/\Q v H
noncomputable def tC(v:V):TE:=λ_ H Q=>Q v H
theorem zlX{i:Nat}{x:Str}{pos:Pos}(hN:X.N[i]?=some x)(hv:Vis X.env.scope x)(hd:(x==("__debug__":Str))=false:=by decide)(hcd:(x==("__classdict__":Str))=false:=by decide):PE X (.Name x pos) (zm0 i):=by
 intro pins s σ H Q I h
 obtain⟨v,e,h⟩:=h
 obtain⟨m,hn,hl⟩:=I.loc
 obtain⟨u,r,l⟩:=hl i x v hN e hv
 have fin:EP X pins σ Q u s:=⟨v,H,I,r,h⟩
 rcases l with⟨hk,hm⟩|⟨hk,c,hc,hcell⟩
 ·exact wpAny_Name (wpAny_loadName_local I.ok.kind hk hn hm fin) hd
 ·rcases hk with hk|hk
  ·exact wpAny_Name (wpAny_loadName_cell I.ok.kind hk hc hcell fin) hd
  ·exact wpAny_Name (wpAny_loadName_free I.ok.kind hk hc hcell fin hcd) hd
theorem zle{i j pos}:PE X (.Constant (.int i) j pos) (tC (.int i)):=λ_ _ _ H _ I h=>wpAny_Constant_int ⟨.int i,H,I.tok _,⟨_,rfl⟩,h⟩
theorem zn4{b j pos}:PE X (.Constant (.bool b) j pos) (tC (.bl b)):=λ_ _ _ H _ I h=>Constant_bool ⟨.bl b,H,I,rfl,h⟩
theorem zk8{j pos}:PE X (.Constant .none j pos) (tC .non):=λ_ _ _ H _ I h=>Constant_none ⟨.non,H,I,rfl,h⟩
theorem zlq{x j pos}:PE X (.Constant (.str x) j pos) (tC (.str x)):=λ_ _ _ H _ I h=>Calls.Constant_str ⟨.str x,H,I.tok _,⟨_,rfl⟩,h⟩
def Gl(X:Cx)(x:Str):Prop:=X.env.kindOf x=some .globalImplicit
theorem zgG{E:Value->Shared->Prop}{pins:List (Addr×Obj)}{s:Shared}{σ:St}{H:Hp}{x:Str}{u:Value}{pos:Pos}{Q:Value->Shared->Prop}(I:Inv X pins σ H s)(hg:Gl X x)(hm:X.mg x=some u)(h:Q u s)
 (hd:(x==("__debug__":Str))=false:=by decide):wpAny (model X.prog X.w) X.A (eval (.Name x pos) X.env) Q E s:=
 Calls.Name_function_global I.ok.kind hg (Calls.loadGlobal_global (by rw[I.ok.glob];exact I.mod.glob.keeps I.bk) hm h) hd
theorem zgP{E:Value->Shared->Prop}{pins:List (Addr×Obj)}{s:Shared}{σ:St}{H:Hp}{x:Str}{u:Value}{pos:Pos}{Q:Value->Shared->Prop}(I:Inv X pins σ H s)(hg:Gl X x)(hm:X.mg x=none)(hv:bootBuiltins x=some u)(h:Q u s)
 (hn:x≠"__name__":=by decide) (hd:(x==("__debug__":Str))=false:=by decide):wpAny (model X.prog X.w) X.A (eval (.Name x pos) X.env) Q E s:=by
 obtain⟨mb,h1,h2⟩:=I.mod.blt
 exact Calls.Name_function_global I.ok.kind hg (Calls.loadGlobal_builtin (by rw[I.ok.glob];exact I.mod.glob.keeps I.bk) hm (by rw[I.ok.blt];exact h1.keeps I.bk) ((h2 x hn).trans hv) h) hd
theorem znA{x:Str}{v:V}{u:Value}{pos:Pos}(hg:Gl X x)(hm:X.mg x=some u)(r:RelV v u)(hd:(x==("__debug__":Str))=false:=by decide):PE X (.Name x pos) (tC v):=
 λ_ _ _ H _ I h=>zgG I hg hm ⟨v,H,I,r,h⟩ hd
variable{a b:Expr}{ta tb:TE}{pos:Pos}
def PC(X:Cx)(op:CmpOp)(a b:Expr)(t:TE):Prop:=
 ∀(pins:List (Addr×Obj)) (s:Shared) (σ:St) (H:Hp) (Q:VK),Inv X pins σ H s->t σ H Q->
  wpAny (model X.prog X.w) X.A (eval a X.env) (λv s₁=>wpAny (model X.prog X.w) X.A (eval b X.env) (λu s₂=>wpAny (model X.prog X.w) X.A (compareOp op v u) (EP X pins σ Q) X.xe s₂) X.xe s₁) X.xe s
noncomputable def tB(t:TE):TT:=λσ H Q=>t σ H λx H1=>∃c,x= .bl c/\Q c H1
theorem pt_cmp{op:CmpOp}{t:TE}(h:PC X op a b t)(h1:behindInMarks op b=false:=by first|exact nobehind _ (by decide) (by decide)|rfl):PT X (.Compare a [op] [b] pos) (tB t):=by
 intro pins s σ H Q I hw
 refine wpAny_isTrue_Compare1 (thn (h pins s σ H _ I hw) λv s1 h1=>thn h1 λu s2 h2=>thn h2 λc s3 ⟨x,H1,I1,r1,q1⟩=>?_) h1
 obtain⟨d,rfl,q⟩:=q1
 cases r1
 exact wpAny_truthy_bool ⟨H1,I1,q⟩
theorem zpi{e:Expr}{t:TE}(h:PE X e t)(he:∀whole,isTrue e X.env whole=(do let v ←whole;standAt e.pos;holding [v] (truthy v)):=by intro _;rfl):PT X e (tB t):=by
 intro pins s σ H Q I hw
 refine isTrue_plain (thn (h pins s σ H _ I hw) λv s1 ⟨x,H1,I1,r1,q1⟩=>?_) (he _)
 obtain⟨d,rfl,q⟩:=q1
 cases r1
 exact wpAny_truthy_bool ⟨H1,I1,q⟩
variable{tA tB':TT}{rest:List Expr}
noncomputable def zp4(t u:TT):TT:=λσ H Q=>t σ H λc H1=>if c=true then u σ H1 Q else Q false H1
noncomputable def tOr(t u:TT):TT:=λσ H Q=>t σ H λc H1=>if c=true then Q true H1 else u σ H1 Q
noncomputable def zp0(t:TT):TT:=λσ H Q=>t σ H λc H1=>Q (!c) H1
theorem zm3(ha:PT X a tA):PW X (.BoolOp .And [a] pos) tA:=by
 intro wh pins s σ H Q I h
 refine isTrue_and (thn (ha pins s σ H Q I h) λc s1 e=>?_)
 cases c with
 |true=>exact isTrue_and_nil e
 |false=>exact e
theorem zo5(ha:PT X a tA):PW X (.BoolOp .Or [a] pos) tA:=by
 intro wh pins s σ H Q I h
 refine isTrue_or (thn (ha pins s σ H Q I h) λc s1 e=>?_)
 cases c with
 |false=>exact isTrue_or_nil e
 |true=>exact e
theorem zoX(ha:PT X a tA)(hb:PW X (.BoolOp .And (b::rest) pos) tB'):PW X (.BoolOp .And (a::b::rest) pos) (zp4 tA tB'):=by
 intro wh pins s σ H Q I h
 refine isTrue_and (thn (ha pins s σ H _ I h) λc s1 ⟨H1,I1,q1⟩=>?_)
 cases c with
 |true=>exact hb wh pins s1 σ H1 Q I1 q1
 |false=>exact ⟨H1,I1,q1⟩
theorem zpv(ha:PT X a tA)(hb:PW X (.BoolOp .Or (b::rest) pos) tB'):PW X (.BoolOp .Or (a::b::rest) pos) (tOr tA tB'):=by
 intro wh pins s σ H Q I h
 refine isTrue_or (thn (ha pins s σ H _ I h) λc s1 ⟨H1,I1,q1⟩=>?_)
 cases c with
 |true=>exact ⟨H1,I1,q1⟩
 |false=>exact hb wh pins s1 σ H1 Q I1 q1
theorem zoV(ha:PT X a tA):PT X (.UnaryOp .Not a pos) (zp0 tA):=by
 intro pins s σ H Q I h
 exact isTrue_not (ha pins s σ H (λc H1=>Q (!c) H1) I h)
noncomputable def zn0(ta tb:TE):TE:=λσ H Q=>ta σ H λx H1=>∃c,x= .bl c/\if c=true then tb σ H1 Q else Q (.bl false) H1
noncomputable def znZ(ta:TE):TE:=λσ H Q=>ta σ H λx H1=>∃c,x= .bl c/\Q (.bl (!c)) H1
theorem zpa{op}{t:TE}(h:PE X a t):PE X (.BoolOp op [a] pos) t:=λpins s σ H Q I hw=>BoolOp_one (h pins s σ H Q I hw)
theorem zpc(ha:PE X a ta)(hb:PE X (.BoolOp .And (b::rest) pos) tb):PE X (.BoolOp .And (a::b::rest) pos) (zn0 ta tb):=by
 intro pins s σ H Q I h
 refine BoolOp_and (thn (ha pins s σ H _ I h) λv s1 ⟨x,H1,I1,r1,q1⟩=>?_)
 obtain⟨c,rfl,q1⟩:=q1
 cases r1
 refine wpAny_truthy_bool ?_
 cases c with
 |true=>exact hb pins s1 σ H1 Q I1 q1
 |false=>exact ⟨.bl false,H1,I1,rfl,q1⟩
theorem zor(ha:PE X a ta):PE X (.UnaryOp .Not a pos) (znZ ta):=by
 intro pins s σ H Q I h
 refine UnaryOp_ (thn (ha pins s σ H _ I h) λv s1 ⟨x,H1,I1,r1,q1⟩=>?_)
 obtain⟨c,rfl,q1⟩:=q1
 cases r1
 exact not_of (wpAny_truthy_bool ⟨.bl (!c),H1,I1,rfl,q1⟩)
noncomputable def tIf(t:TT)(ta tb:TE):TE:=λσ H Q=>t σ H λc H1=>if c=true then ta σ H1 Q else tb σ H1 Q
theorem zma{c:Expr}(hc:PT X c tA)(ha:PE X a ta)(hb:PE X b tb):PE X (.IfExp c a b pos) (tIf tA ta tb):=by
 intro pins s σ H Q I h
 refine wpAny_IfExp (thn (hc pins s σ H _ I h) λd s1 ⟨H1,I1,q1⟩=>?_)
 cases d with
 |true=>exact ha pins s1 σ H1 Q I1 q1
 |false=>exact hb pins s1 σ H1 Q I1 q1
end
def SqL(K:PySem.W.Frag)(H:Hp)(a:Addr)(xs:List V):Prop:=
 Rd H a (.lst xs)\/
  ∃(o:Obj) (its:Array Value) (n:Nat),K.lookup a=some o/\o.cls= .type "list"/\o.dict=none/\o.data= .seq its n/\its.size<=sizeLine/\Vals xs its.toList
def SqT(K:PySem.W.Frag)(H:Hp)(a:Addr)(xs:List V):Prop:=
 Rd H a (.tup xs)\/
  ∃(o:Obj) (its:Array Value) (n:Nat),K.lookup a=some o/\o.cls= .type "tuple"/\o.data= .seq its n/\its.size<=sizeLine/\Vals xs its.toList
noncomputable def zqm:Value->Option V
 | .none=>some .non
 | .bool b=>some (.bl b)
 | .int i _=>some (.int i)
 | .str x _=>some (.str x)
 | .bytes b _=>some (.byt b)
 | .float b _=>some (.flt b)
 | .ref a=>some (.ref a)
 | .type n=>some (.ty n)
 |_=>none
theorem RelV.abs{x:V}{u:Value}(r:RelV x u):zqm u=some x:=by
 cases x with
 |non=>cases r;rfl
 |bl _=>cases r;rfl
 |int _=>obtain ⟨t,rfl⟩:=r;rfl
 |str _=>obtain ⟨t,rfl⟩:=r;rfl
 |byt _=>obtain ⟨t,rfl⟩:=r;rfl
 |flt _=>obtain ⟨t,rfl⟩:=r;rfl
 |ref _=>cases r;rfl
 |ty _=>cases r;rfl
theorem RelV.inj{x y:V}{u:Value}(r:RelV x u)(q:RelV y u):x=y:=Option.some.inj (r.abs.symm.trans q.abs)
theorem Vals.inj:∀{xs ys:List V} {us:List Value},Vals xs us->Vals ys us->xs=ys
 |_,_,_, .nil, .nil=>rfl
 |_,_,_, .cons r t, .cons r' t'=>by rw[r.inj r',Vals.inj t t']
section
variable{X:Cx}{pins:List (Addr×Obj)}{σ:St}{H:Hp}{s:Shared}{a:Addr}{xs ys:List V}
theorem SqL.of{K:PySem.W.Frag}(h:H a=some (.lst xs)):SqL K H a xs:= .inl (.inl h)
theorem SqT.of{K:PySem.W.Frag}(h:H a=some (.tup xs)):SqT K H a xs:= .inl (.inl h)
theorem Inv.list(I:Inv X pins σ H s)(h:SqL X.K H a xs):∃its:List Value,Vals xs its/\PlainL s.heap a its.toArray/\xs.length<=sizeLine:=by
 rcases h with h|⟨o,its,n,hk,hc,hd,hs,hz,r⟩
 ·obtain ⟨z,its,n,r,e⟩:=h.ok I.hok
  exact⟨its,r,⟨_,n,e,rfl,rfl,rfl⟩,z⟩
 ·refine ⟨its.toList,r,⟨o,n,I.kIn a o hk,hc,hd,by simpa using hs⟩,?_⟩
  have e:=r.length
  simp only[Array.length_toList] at e
  omega
theorem Inv.tuple(I:Inv X pins σ H s)(h:SqT X.K H a xs):∃its:List Value,Vals xs its/\IsTup s.heap a its.toArray/\xs.length<=sizeLine:=by
 rcases h with h|⟨o,its,n,hk,hc,hs,hz,r⟩
 ·obtain ⟨z,its,r,p,_⟩:=h.ok I.hok
  exact⟨its,r,p,z⟩
 ·refine ⟨its.toList,r,⟨o,I.kIn a o hk,hc,n,by simpa using hs⟩,?_⟩
  have e:=r.length
  simp only[Array.length_toList] at e
  omega
theorem Inv.list_inj(I:Inv X pins σ H s)(h:SqL X.K H a xs)(h':SqL X.K H a ys):xs=ys:=by
 obtain⟨its,r,⟨o,n,e,_,_,d⟩,_⟩:=I.list h
 obtain⟨its',r',⟨o',n',e',_,_,d'⟩,_⟩:=I.list h'
 rw[e] at e';cases e'
 rw[d] at d'
 injection d' with d1 _
 have:its=its':=by simpa using congrArg Array.toList d1
 subst this
 exact r.inj r'
theorem Inv.tuple_inj(I:Inv X pins σ H s)(h:SqT X.K H a xs)(h':SqT X.K H a ys):xs=ys:=by
 obtain⟨its,r,⟨o,e,_,n,d⟩,_⟩:=I.tuple h
 obtain⟨its',r',⟨o',e',_,n',d'⟩,_⟩:=I.tuple h'
 rw[e] at e';cases e'
 rw[d] at d'
 injection d' with d1 _
 have:its=its':=by simpa using congrArg Array.toList d1
 subst this
 exact r.inj r'
end
abbrev Cx.wish(X:Cx)(E:Value->Shared->Prop):Cx:={X with xe:=E}
noncomputable abbrev Cx.nox(X:Cx):Cx:=X.wish λ_ _=>False
theorem Cx.Ok.wish{X:Cx}(ok:X.Ok)(E:Value->Shared->Prop):(X.wish E).Ok:=
 ⟨ok.mod,ok.kind,ok.glob,ok.blt,ok.above,ok.inj,ok.has,ok.cab,ok.hd,ok.frames,ok.stk,ok.exf,ok.bs,ok.bsz,ok.noex,ok.exfs,ok.funs,ok.frf⟩
theorem Cx.Ok.unwish{X:Cx}{E:Value->Shared->Prop}(ok:(X.wish E).Ok):X.Ok:=
 ⟨ok.mod,ok.kind,ok.glob,ok.blt,ok.above,ok.inj,ok.has,ok.cab,ok.hd,ok.frames,ok.stk,ok.exf,ok.bs,ok.bsz,ok.noex,ok.exfs,ok.funs,ok.frf⟩
section
variable{X:Cx}{pins:List (Addr×Obj)}{σ:St}{H:Hp}{s:Shared}{E:Value->Shared->Prop}
theorem Inv.wish(I:Inv X pins σ H s)(E:Value->Shared->Prop):Inv (X.wish E) pins σ H s:=⟨I.ok.wish E,I.os,I.bare,I.base,I.loc,I.cell,I.free,I.freeC,I.pin,I.hok,I.len⟩
theorem Inv.unwish(I:Inv (X.wish E) pins σ H s):Inv X pins σ H s:=⟨I.ok.unwish,I.os,I.bare,I.base,I.loc,I.cell,I.free,I.freeC,I.pin,I.hok,I.len⟩
theorem SP.unwish{D:Ends}{f:Flow}{s':Shared}(h:SP (X.wish E) pins D f s'):SP X pins D f s':=by
 cases f with
 |next=>obtain ⟨σ',H',I,q⟩:=h;exact⟨σ',H',I.unwish,q⟩
 |brk=>obtain ⟨σ',H',I,q⟩:=h;exact⟨σ',H',I.unwish,q⟩
 |cont=>obtain ⟨σ',H',I,q⟩:=h;exact⟨σ',H',I.unwish,q⟩
 |ret u=>obtain ⟨v,σ',H',I,r,q⟩:=h;exact⟨v,σ',H',I.unwish,r,q⟩
theorem PSs.nox{st:List Stmt}{t:TS}(h:PSs X.nox st t):PSs X st t:=λpins s σ H D I hw=>
 wpAny_mono (h pins s σ H D (I.wish _) hw) (λ_ _ q=>q.unwish) λ_ _ z=>False.elim z
end
section
variable{X:Cx}{st:Stmt}{rest:List Stmt}{t u:TS}{e:Expr}{te:TE}{pos:Pos}
noncomputable def zob:TS:=λD σ H=>D.nx σ H
noncomputable def zj4(t u:TS):TS:=λD σ H=>t {D with nx:=u D} σ H
theorem zm7:PSs X [] zob:=λ_ _ σ H _ I h=>wpAny_execs_nil ⟨σ,H,I,h⟩
theorem zh8(h1:PS X st t)(h2:PSs X rest u):PSs X (st::rest) (zj4 t u):=by
 intro pins s σ H D I h
 refine wpAny_execs_cons (thn (h1 pins s σ H {D with nx:=u D} I h) λf s1 q=>?_)
 cases f with
 |next=>
  obtain⟨σ',H',I',q⟩:=q
  exact h2 pins s1 σ' H' D I' q
 |ret v=>exact q
 |brk=>exact q
 |cont=>exact q
theorem zmu(h1:PS X st t):PSs X [st] t:=by
 intro pins s σ H D I h
 refine wpAny_execs_cons (thn (h1 pins s σ H D I h) λf s1 q=>?_)
 cases f with
 |next=>exact wpAny_execs_nil q
 |ret v=>exact q
 |brk=>exact q
 |cont=>exact q
noncomputable def zol:TS:=λD σ H=>D.ct σ H
theorem zht:PS X (.Continue pos) zol:=λ_ _ σ H _ I h=>wpAny_Continue ⟨σ,H,I,h⟩
theorem Inv.quiet{pins:List (Addr×Obj)}{σ:St}{H:Hp}{s:Shared}(I:Inv X pins σ H s):interactive X.env=false:=by simp[interactive,I.ok.kind]
noncomputable def znV(te:TE):TS:=λD σ H=>te σ H λ_ H1=>D.nx σ H1
theorem zmF(he:PE X e te)(hs:swapsWith e none pos.line X.env=pure false:=by rfl):PS X (.Expr e pos) (znV te):=by
 intro pins s σ H D I h
 exact wpAny_Expr_any (thn (he pins s σ H _ I h) λv s1 ⟨x,H1,I1,r1,q1⟩=>⟨σ,H1,I1,q1⟩) I.quiet hs
noncomputable def zpx(te:TE):TS:=λD σ H=>te σ H D.rt
theorem zo9(he:PE X e te):PS X (.Return (some e) pos) (zpx te):=by
 intro pins s σ H D I h
 exact wpAny_Return_some (thn (he pins s σ H _ I h) λv s1 ⟨x,H1,I1,r1,q1⟩=>⟨x,σ,H1,I1,r1,q1⟩)
noncomputable def zpu(c:TT)(t u:TS):TS:=λD σ H=>c σ H λb H1=>if b=true then t D σ H1 else u D σ H1
theorem zpR{c:Expr}{a b:List Stmt}{tc:TT}(hc:PT X c tc)(ha:PSs X a t)(hb:PSs X b u):PS X (.If c a b pos) (zpu tc t u):=by
 intro pins s σ H D I h
 refine wpAny_If (thn (hc pins s σ H _ I h) λd s1 ⟨H1,I1,q1⟩=>?_)
 cases d with
 |true=>exact ha pins s1 σ H1 D I1 q1
 |false=>exact hb pins s1 σ H1 D I1 q1
end
noncomputable abbrev TG:=V->St->Hp->(St->Hp->Prop)->Prop
noncomputable abbrev TGs:=List V->St->Hp->(St->Hp->Prop)->Prop
def PG(X:Cx)(target:Expr)(t:TG):Prop:=
 ∀(pins:List (Addr×Obj)) (s:Shared) (σ:St) (H:Hp) (v:V) (u:Value) (Q:St->Hp->Prop),Inv X pins σ H s->RelV v u->t v σ H Q->
  wpAny (model X.prog X.w) X.A (assign target X.env u) (λ_ s'=>∃σ' H',Inv X pins σ' H' s'/\Q σ' H') X.xe s
def PGs(X:Cx)(ts:List Expr)(t:TGs):Prop:=
 ∀(pins:List (Addr×Obj)) (s:Shared) (σ:St) (H:Hp) (vs:List V) (us:List Value) (Q:St->Hp->Prop),Inv X pins σ H s->Vals vs us->t vs σ H Q->
  wpAny (model X.prog X.w) X.A (assignInOrder ((assignEach ts X.env).map (·.2)) us) (λ_ s'=>∃σ' H',Inv X pins σ' H' s'/\Q σ' H') X.xe s
noncomputable abbrev znu:=V->V->V->Hp->(Hp->Prop)->Prop
def zpb(X:Cx)(t:znu):Prop:=
 ∀(pins:List (Addr×Obj)) (s:Shared) (σ:St) (H:Hp) (o i v:V) (ov iv u:Value) (Q:Hp->Prop),Inv X pins σ H s->RelV o ov->RelV i iv->RelV v u->t o i v H Q->
  wpAny (model X.prog X.w) X.A (setItem ov iv u) (λ_ s'=>∃H',Inv X pins σ H' s'/\Q H') X.xe s
section
variable{X:Cx}{pos:Pos}
noncomputable def zcw(i:Nat):TG:=λv σ H Q=>Q (σ.set i (some v)) H
theorem zjM{i:Nat}{x:Str}(hN:X.N.Nodup)(hi:X.N[i]?=some x)(hx:Loc X.env.scope x)(hf:X.fn x=true\/X.env.scope.names.lookup x=some .local:=by first|exact .inl rfl|exact .inr rfl|assumption):PG X (.Name x pos) (zcw i):=by
 intro pins s σ H v u Q I r h
 exact wpAny_assign_Name (zcW I hN hi hx r (λs' I'=>⟨_,H,I',h⟩) hf)
noncomputable def zpQ:TGs:=λvs σ H Q=>vs=[]/\Q σ H
noncomputable def znX(t:TG)(u:TGs):TGs:=λvs σ H Q=>∃v r,vs=v::r/\t v σ H λσ' H'=>u r σ' H' Q
theorem zmB:PGs X [] zpQ:=by
 intro pins s σ H vs us Q I r h
 obtain⟨e,h⟩:=h
 subst e
 cases r
 exact assignInOrder_nil ⟨σ,H,I,h⟩
theorem zkR{e:Expr}{es:List Expr}{t:TG}{u:TGs}(h1:PG X e t)(h2:PGs X es u)
 (hs:(assignEach (e::es) X.env).map (·.2)=assign e X.env::(assignEach es X.env).map (·.2):=by rfl):PGs X (e::es) (znX t u):=by
 intro pins s σ H vs us Q I r h
 obtain⟨v,vr,e1,h⟩:=h
 subst e1
 cases r with
 |cons r rr=>
  rw[hs]
  refine assignInOrder_cons (thn (h1 pins s σ H _ _ _ I r h) λ_ s1 ⟨σ1,H1,I1,q1⟩=>?_)
  exact h2 pins s1 σ1 H1 _ _ Q I1 rr q1
noncomputable def zo0(K:PySem.W.Frag)(n:Nat)(t:TGs):TG:=λv σ H Q=>∃a xs,v= .ref a/\SqT K H a xs/\xs.length=n/\t xs σ H Q
theorem zpf{es:List Expr}{k:Nat}{t:TGs}{n:Nat}(hc:X.calm=true)(h:PGs X es t)
 (hn:(assignEach es X.env).length=n:=by rfl) (hst:(assignEach es X.env).findIdx? (·.1)=none:=by rfl):PG X (.Tuple es k pos) (zo0 X.K n t):=by
 intro pins s σ H v u Q I r hw
 obtain⟨a,xs,e1,hq,hl,hw⟩:=hw
 subst e1
 cases r
 obtain⟨its,rv,ht,hz⟩:=I.tuple hq
 refine assign_Tuple_tuple (I.ok.hd hc) ht (by simp[hn,←hl,rv.length]) hst λh' hx=>?_
 have I1:Inv X pins σ H {s with heap:=h'}:=I.kept (t':=s.toks) λb o e=>hx b o (Nat.ne_of_lt (Heap.lt_size e)) e
 exact h pins _ σ H xs _ Q I1 (by simpa using rv) hw
noncomputable def zpF(to ti:TE)(t:znu):TG:=λv σ H Q=>to σ H λo H1=>ti σ H1 λi H2=>t o i v H2 λH3=>Q σ H3
theorem zoS{o i:Expr}{to ti:TE}{t:znu}(ho:PE X o to)(hi:PE X i ti)(hs:zpb X t)
 (ha:∀v,assign (.Subscript o i pos) X.env v=(do
   let ov ←holding [v] (eval o X.env)
   let iv ←holding [v,ov] (eval i X.env)
   standAt pos
   holding [v,ov,iv] (setItem ov iv v)
   release [v,ov,iv] []):=by intro _;rfl):PG X (.Subscript o i pos) (zpF to ti t):=by
 intro pins s σ H v u Q I r h
 rw[ha]
 refine wpAny_bind (wpAny_holding (thn (ho pins s σ H _ I h) λov s1 ⟨x,H1,I1,r1,q1⟩=>?_))
 refine wpAny_bind (wpAny_holding (thn (hi pins s1 σ H1 _ I1 q1) λiv s2 ⟨y,H2,I2,r2,q2⟩=>?_))
 refine wpAny_bind (wpAny_standAt (wpAny_bind (wpAny_holding (thn (hs pins s2 σ H2 x y v ov iv u _ I2 r1 r2 r q2) λ_ s3 ⟨H3,I3,q3⟩=>?_))))
 exact wpAny_release ⟨σ,H3,I3,q3⟩
noncomputable def zi2(te:TE)(g:TG):TS:=λD σ H=>te σ H λx H1=>g x σ H1 D.nx
theorem zpk{tg e:Expr}{te:TE}{g:TG}(he:PE X e te)(hg:PG X tg g)(hs:swapsWithSole [tg] e pos.line X.env=pure false:=by rfl)(hw:swappedStores [tg] e X.env=pure none:=by rfl)
 (h1:(assignEach [tg] X.env).map (·.2)=[assign tg X.env]:=by rfl):PS X (.Assign [tg] e pos) (zi2 te g):=by
 intro pins s σ H D I h
 refine wpAny_Assign_stores (thn (he pins s σ H _ I h) λv s1 ⟨x,H1,I1,r1,q1⟩=>?_) hs hw
 rw[h1]
 exact thn (hg pins s1 σ H1 x v _ I1 r1 q1) λ_ s2 q=>q
theorem zmr{i:Nat}{x:Str}{e:Expr}{te:TE}{pos':Pos}(hN:X.N.Nodup)(hi:X.N[i]?=some x)(hx:Loc X.env.scope x)(he:PE X e te)(hs:swapsWith e (some (.Name x pos')) pos.line X.env=pure false:=by rfl)(hf:X.fn x=true\/X.env.scope.names.lookup x=some .local:=by first|exact .inl rfl|exact .inr rfl|assumption):
 PS X (.Assign [.Name x pos'] e pos) (zi2 te (zcw i)):=by
 intro pins s σ H D I h
 refine wpAny_Assign_Name (thn (he pins s σ H _ I h) λv s1 ⟨y,H1,I1,r1,q1⟩=>?_) hs
 exact zcW I1 hN hi hx r1 (λs2 I2=>⟨_,H1,I2,q1⟩) hf
noncomputable def zpH(i j:Nat)(ta:TA):TS:=λD σ H=>ta σ H λvs H1=>∃v w,vs=[v,w]/\D.nx ((σ.set i (some v)).set j (some w)) H1
theorem zox{i j:Nat}{x y:Str}{a b:Expr}{ta:TA}{px py pt:Pos}{kt k2 pt2}(hc:X.calm=true)(hN:X.N.Nodup)(hi:X.N[i]?=some x)(hj:X.N[j]?=some y)(hij:i≠j)
 (hx:X.env.scope.names.lookup x=some .local) (hy:X.env.scope.names.lookup y=some .local) (ha:PA X [a,b] ta)
 (hw:swappedStores [.Tuple [.Name x px, .Name y py] kt pt] (.Tuple [a,b] k2 pt2) X.env=pure (some [x,y]))
 (hs:swapsWithSole [.Tuple [.Name x px, .Name y py] kt pt] (.Tuple [a,b] k2 pt2) pos.line X.env=pure false:=by rfl):
 PS X (.Assign [.Tuple [.Name x px, .Name y py] kt pt] (.Tuple [a,b] k2 pt2) pos) (zpH i j ta):=by
 intro pins s σ H D I h
 rw[exec_Assign_arm]
 refine wpAny_bind (wpAny_standAt ?_)
 rw[hs]
 refine wpAny_bind (wpAny_pure ?_)
 rw[if_neg (by decide)]
 refine wpAny_bind (Tuple_ (thn (ha _ pins s σ H _ I h) λus s1 ⟨vs,H1,I1,r1,q1⟩=>?_))
 obtain⟨v,w,e1,q1⟩:=q1
 subst e1
 obtain⟨u1,u2,rfl,rv,rw'⟩:∃u1 u2,us=[u1,u2]/\RelV v u1/\RelV w u2:=by
  cases r1 with
  |cons p q=>
   cases q with
   |cons p' q'=>
    cases q'
    exact⟨_,_,rfl,p,p'⟩
 refine wpAny_newObj_type ?_ (by show 2<=sizeLine;decide)
 have I2:Inv X pins σ H1 {s1 with heap:=s1.heap.push {cls:= .type "tuple",data:= .seq [u1,u2].toArray}}:=I1.kept (t':=s1.toks) λb o e=>Heap.get?_push_of_some _ e
 rw[hw]
 refine wpAny_bind (wpAny_pure ?_)
 show wpAny (model X.prog X.w) X.A (do rule "assign.swapped-stores";let items ←unpackItems (.ref s1.heap.objs.size) 2 none;assignInOrder [λv=>bindName X.env y v,λv=>bindName X.env x v] items.reverse;pure Flow.next) _ _ _
 refine wpAny_bind (wpAny_rule (wpAny_bind (unpackItems_tuple (items:= #[u1,u2]) (I.ok.hd hc) (IsTup.new s1.heap _) λh' hx'=>?_)))
 have I3:=I2.kept (h':=h') (t':=s1.toks) λb o e=>hx' b o (Nat.ne_of_lt (Heap.lt_size e)) e
 show wpAny _ _ (assignInOrder [λv=>bindName X.env y v,λv=>bindName X.env x v] [u2,u1]>>=λ_=>pure Flow.next) _ _ _
 refine wpAny_bind (assignInOrder_cons (wpAny_bindName (zcW I3 hN hj (.inl hy) rw' (λs2 I4=>?_) (.inr hy))))
 refine assignInOrder_cons (wpAny_bindName (zcW I4 hN hi (.inl hx) rv (λs3 I5=>assignInOrder_nil (wpAny_pure ?_)) (.inr hx)))
 rw[List.set_comm _ _ (Ne.symm hij)] at I5
 exact⟨_,H1,I5,q1⟩
end
section
variable{X:Cx}{pos:Pos}
noncomputable def zlj(c:TT)(tb:TS):TS:=λD σ H=>∃W:Nat->St->Hp->Prop,(∃m,W m σ H)/\∀m σ H,W m σ H->
 c σ H λb H1=>if b=true then∃N:St->Hp->Prop,(∀σ' H',N σ' H'->∃m',m'<m/\W m' σ' H')/\tb {D with nx:=N,ct:=N,bk:=D.nx} σ H1 else D.nx σ H1
theorem zmh{c:Expr}{body:List Stmt}{tc:TT}{tb:TS}(hp:PassesOwn (model X.prog X.w) X.A X.env X.xe)(hc:PT X c tc)(hb:PSs X body tb):PS X (.While c body [] pos) (zlj tc tb):=by
 intro pins s σ H D I h
 obtain⟨W,⟨m0,w0⟩,turn⟩:=h
 refine wpAny_While (codeAny_whileLoop (λn s'=>∃σ' H',Inv X pins σ' H' s'/\W n σ' H') ?_ m0 ⟨σ,H,I,w0⟩)
 rintro n s1 ⟨σ1,H1,I1,w1⟩
 refine wpAny_passesOwn hp (thn (hc pins s1 σ1 H1 _ I1 (turn n σ1 H1 w1)) λb s2 ⟨H2,I2,q2⟩=>?_)
 cases b with
 |true=>
  obtain⟨N,hN,q2⟩:=q2
  rw[if_pos rfl]
  refine wpAny_passesOwn hp (thn (hb pins s2 σ1 H2 _ I2 q2) λf s3 q3=>?_)
  cases f with
  |next=>
   obtain⟨σ3,H3,I3,n3⟩:=q3
   obtain⟨m',hm,w3⟩:=hN σ3 H3 n3
   exact⟨m',hm,σ3,H3,I3,w3⟩
  |cont=>
   obtain⟨σ3,H3,I3,n3⟩:=q3
   obtain⟨m',hm,w3⟩:=hN σ3 H3 n3
   exact⟨m',hm,σ3,H3,I3,w3⟩
  |brk=>exact q3
  |ret v=>exact q3
 |false=>
  rw[if_neg Bool.false_ne_true]
  exact wpAny_execs_nil ⟨σ1,H2,I2,q2⟩
end
structure It where
 go:Nat->Hp->Prop
 yld:Nat->Hp->V->Hp->Prop
 stop:Nat->Hp->Prop
def zeh(X:Cx)(pins:List (Addr×Obj))(H:Hp)(b:Addr):Prop:=
 H b=none/\b≠X.env.locals/\b∉X.fs/\(b∈X.ex\/X.s₀.heap.objs.size<=b)/\(∀x c,X.env.cells.lookup x=some c->c≠b)/\∀p∈X.pn ++pins,p.1≠b
theorem Inv.fpOk{X:Cx}{pins:List (Addr×Obj)}{σ:St}{H H':Hp}{s:Shared}{b:Addr}(I:Inv X pins σ H s)(hb:s.heap.objs.size<=b)(hn:H' b=none):zeh X pins H' b:=by
 refine⟨hn,Nat.ne_of_gt (Nat.lt_of_lt_of_le I.lt hb),I.nofs hb, .inr (Nat.le_trans I.sz hb),λx c e z=>?_,λp hp z=>?_⟩
 ·obtain ⟨v,q⟩:=I.cell x c e
  exact absurd (Nat.lt_of_lt_of_le q.lt (by rw[z];exact hb)) (Nat.lt_irrefl _)
 ·exact absurd (Nat.lt_of_lt_of_le (Heap.lt_size (I.pin p hp).1) (by rw[z];exact hb)) (Nat.lt_irrefl _)
structure Turn(P:Program)(w:World)(K:PySem.W.Frag)(tg:Expr)(J:It)(fp:List Addr)(it:Addr)(tn:Nat->Heap->Prop):Prop where
 mem:it∈fp
 obj:∀i h,tn i h->∀b∈fp,∃o,h.get? b=some o/\∀v,o.data≠ .cell v
 keep:∀i h h',tn i h->(∀b∈fp,∀o,h.get? b=some o->h'.get? b=some o)->tn i h'
 item:∀(X:Cx),X.prog=P->X.w=w->X.K=K->X.calm=true->∀(i:Nat) (pins:List (Addr×Obj)) (s:Shared) (σ:St) (H:Hp) (E:Value->Shared->Prop),Inv X pins σ H s->(∀b∈fp,zeh X pins H b)->tn i s.heap->J.go i H->
  wpAny (model P w) X.A (pyNext (.ref it)) (λr s1=>∃u,r=some u/\
   wpAny (model P w) X.A (letOwnedTupleGo tg (.ref it) u) (λ_ s2=>∃x H',Inv X pins σ H' s2/\RelV x u/\J.yld i H x H'/\tn (i+1) s2.heap/\∀b∈fp,H' b=none) E s1) E s
 done:∀(X:Cx),X.prog=P->X.w=w->X.K=K->X.calm=true->∀(i:Nat) (pins:List (Addr×Obj)) (s:Shared) (σ:St) (H:Hp) (E:Value->Shared->Prop),Inv X pins σ H s->(∀b∈fp,zeh X pins H b)->tn i s.heap->J.stop i H->
   wpAny (model P w) X.A (pyNext (.ref it)) (λr s1=>r=none/\Inv X pins σ H s1) E s
 self:∀(A:Around) (i:Nat) (s:Shared) (Q:Value->Shared->Prop) (E:Value->Shared->Prop),tn i s.heap->Q (.ref it) s->wpAny (model P w) A (pyIter (.ref it)) Q E s
noncomputable abbrev TI:=St->Hp->(It->Hp->Prop)->Prop
def PIE(X:Cx)(pins:List (Addr×Obj))(σ:St)(tg:Expr)(R:It->Hp->Prop)(itv:Value)(s2:Shared):Prop:=
 ∃(it:Addr) (fp:List Addr) (tn:Nat->Heap->Prop) (J:It) (H':Hp),itv= .ref it/\Inv X pins σ H' s2/\Turn X.prog X.w X.K tg J fp it tn/\tn 0 s2.heap/\(∀b∈fp,zeh X pins H' b)/\R J H'
def PI(X:Cx)(tg iter:Expr)(wi:TI):Prop:=
 ∀(pins:List (Addr×Obj)) (s:Shared) (σ:St) (H:Hp) (R:It->Hp->Prop),Inv X pins σ H s->wi σ H R->
  wpAny (model X.prog X.w) X.A (eval iter X.env) (λv s1=>wpAny (model X.prog X.w) X.A (pyIter v) (PIE X pins σ tg R) X.xe s1) X.xe s
theorem zhn{M:Model}{A:Around}{E:Value->Shared->Prop}{s:Shared}{tg:Expr}{it:Addr}{u:Value}{o:Obj}{n:String}{vs:Array Value}{Q:Unit->Shared->Prop}(ho:s.heap.get? it=some o)(hc:o.cls= .type n)(hd:o.data= .fields vs)
 (hn:["enumerate","zip","dict_itemiterator","dict_reverseitemiterator","odict_iterator","itertools.zip_longest","itertools.pairwise"].contains n=false) (hQ:Q () s):wpAny M A (letOwnedTupleGo tg (.ref it) u) Q E s:=by
 unfold letOwnedTupleGo
 cases tg<;>first
  |exact wpAny_pure hQ
  |(cases u<;>first
     |exact wpAny_pure hQ
     |(refine wpAny_bind (wpAny_load ho ?_)
       rw[hc,hd]
       show wpAny M A (if(["enumerate","zip","dict_itemiterator","dict_reverseitemiterator","odict_iterator","itertools.zip_longest","itertools.pairwise"].contains n&&vs[0]?==some (rawInt _))=true then _ else _) Q E s
       rw[if_neg (by intro h;rw[hn,Bool.false_and] at h;cases h)]
       exact wpAny_pure hQ))
noncomputable def Itl(K:PySem.W.Frag)(a:Addr):It:=
 ⟨λi H=>∃xs x,SqL K H a xs/\xs[i]?=some x,λi H x H'=>H'=H/\∀xs,SqL K H a xs->xs[i]?=some x,λi H=>∃xs,SqL K H a xs/\xs.length<=i⟩
noncomputable def Itt(K:PySem.W.Frag)(a:Addr):It:=
 ⟨λi H=>∃xs x,SqT K H a xs/\xs[i]?=some x,λi H x H'=>H'=H/\∀xs,SqT K H a xs->xs[i]?=some x,λi H=>∃xs,SqT K H a xs/\xs.length<=i⟩
noncomputable def Itr(lo:Int)(n:Nat):It:=⟨λi _=>i<n,λi H x H'=>H'=H/\x= .int (lo+i),λi _=>n<=i⟩
theorem zku{P:Program}{w:World}{K:PySem.W.Frag}{tg:Expr}(a it:Addr):Turn P w K tg (Itl K a) [it] it (λi h=>h.IsListIter it a i) where
 mem:=by simp
 obj:=λi h st b hb=>by
  have e:b=it:=by simpa using hb
  subst e
  obtain⟨o,e,c,d⟩:=st
  exact⟨o,e,λv z=>by rw[d] at z;cases z⟩
 keep:=λi h h' st k=>st.at λo e=>k it (by simp) o e
 item:=by
  intro X hP hw hK hc i pins s σ H E I hf st hg
  subst hP hw hK
  obtain⟨xs,x,hq,hx⟩:=hg
  obtain⟨its,rv,p,hz⟩:=I.list hq
  obtain⟨u,hu,ru⟩:=rv.get hx
  obtain⟨f0,f1,f2,f3,f4,f5⟩:=hf it (by simp)
  refine wpAny_pyNext_list_item st p.isList (x:=u) (by simpa using hu) λh' st' sb=>?_
  have I1:Inv X pins σ H {s with heap:=h'}:=I.turned (t':=s.toks) (λb o hb e=>(sb.2 b hb).trans e) f0 f1 f3 f4 f5
  obtain⟨o,e,c,d⟩:=id st'
  exact⟨u,rfl,zhn (s:={s with heap:=h'}) e c d (by decide) ⟨x,H,I1,ru,⟨rfl,λys hy=>by rw[I.list_inj hy hq];exact hx⟩,st',λb hb=>(hf b hb).1⟩⟩
 done:=by
   intro X hP hw hK hc i pins s σ H E I hf st hg
   subst hP hw hK
   obtain⟨xs,hq,hx⟩:=hg
   obtain⟨its,rv,p,hz⟩:=I.list hq
   obtain⟨f0,f1,f2,f3,f4,f5⟩:=hf it (by simp)
   have hl:=rv.length
   exact wpAny_pyNext_list_end (I.ok.hd hc) st p.isList (by simp;omega) λh' eb=>⟨rfl,I.turned (t':=s.toks) (λb o hb e=>eb b o hb e) f0 f1 f3 f4 f5⟩
 self:=λ_ _ _ _ _ st h=>wpAny_pyIter_listiter st h
theorem ziU{P:Program}{w:World}{K:PySem.W.Frag}{tg:Expr}(a it:Addr):Turn P w K tg (Itt K a) [it] it (λi h=>h.IsTupleIter it a i) where
 mem:=by simp
 obj:=λi h st b hb=>by
  have e:b=it:=by simpa using hb
  subst e
  obtain⟨o,e,c,d⟩:=st
  exact⟨o,e,λv z=>by rw[d] at z;cases z⟩
 keep:=λi h h' st k=>st.at λo e=>k it (by simp) o e
 item:=by
  intro X hP hw hK hc i pins s σ H E I hf st hg
  subst hP hw hK
  obtain⟨xs,x,hq,hx⟩:=hg
  obtain⟨its,rv,p,hz⟩:=I.tuple hq
  obtain⟨u,hu,ru⟩:=rv.get hx
  obtain⟨f0,f1,f2,f3,f4,f5⟩:=hf it (by simp)
  refine wpAny_pyNext_tuple_item st (show s.heap.IsTuple a its.toArray from p) (x:=u) (by simpa using hu) λh' st' sb=>?_
  have I1:Inv X pins σ H {s with heap:=h'}:=I.turned (t':=s.toks) (λb o hb e=>(sb.2 b hb).trans e) f0 f1 f3 f4 f5
  obtain⟨o,e,c,d⟩:=id st'
  exact⟨u,rfl,zhn (s:={s with heap:=h'}) e c d (by decide) ⟨x,H,I1,ru,⟨rfl,λys hy=>by rw[I.tuple_inj hy hq];exact hx⟩,st',λb hb=>(hf b hb).1⟩⟩
 done:=by
   intro X hP hw hK hc i pins s σ H E I hf st hg
   subst hP hw hK
   obtain⟨xs,hq,hx⟩:=hg
   obtain⟨its,rv,p,hz⟩:=I.tuple hq
   obtain⟨f0,f1,f2,f3,f4,f5⟩:=hf it (by simp)
   have hl:=rv.length
   exact wpAny_pyNext_tuple_end (I.ok.hd hc) st (show s.heap.IsTuple a its.toArray from p) (by simp;omega) λh' eb=>⟨rfl,I.turned (t':=s.toks) (λb o hb e=>eb b o hb e) f0 f1 f3 f4 f5⟩
 self:=λ_ _ _ _ _ st h=>wpAny_pyIter_tupleiter st h
theorem ziF{P:Program}{w:World}{K:PySem.W.Frag}{tg:Expr}(it:Addr)(lo:Int)(n:Nat):Turn P w K tg (Itr lo n) [it] it (λi h=>IsRangeIter h it (lo+(i:Nat)*1) ((n:Int) -(i:Nat)) 1) where
 mem:=by simp
 obj:=λi h st b hb=>by
  have e:b=it:=by simpa using hb
  subst e
  exact⟨_,st,λv z=>by
   have z':Data.fields _=Data.cell v:=z
   cases z'⟩
 keep:=λi h h' st k=>k it (by simp) _ st
 item:=by
  intro X hP hw hK hc i pins s σ H E I hf st hg
  subst hP hw hK
  obtain⟨f0,f1,f2,f3,f4,f5⟩:=hf it (by simp)
  have W:=Walks.range (prog:=X.prog) (w:=X.w) (I.ok.hd hc) it lo 1 n
  refine W.item i s _ _ hg st λv h' tk hv st' kk=>?_
  obtain⟨t,rfl⟩:=hv
  have I1:Inv X pins σ H {s with heap:=h',toks:=tk}:=I.turned (λb o hb e=>kk b o (by simpa using hb) e) f0 f1 f3 f4 f5
  refine⟨_,rfl,zhn (s:={s with heap:=h',toks:=tk}) (n:="range_iterator") st' rfl rfl (by decide) ⟨.int (lo+i),H,I1,⟨t,?_⟩,⟨rfl,rfl⟩,st',λb hb=>(hf b hb).1⟩⟩
  rw[Int.mul_one]
 done:=by
   intro X hP hw hK hc i pins s σ H E I hf st hg
   subst hP hw hK
   obtain⟨f0,f1,f2,f3,f4,f5⟩:=hf it (by simp)
   exact wpAny_pyNext_range_end (I.ok.hd hc) st (by have:n<=i:=hg;omega) λh' eb=>⟨rfl,I.turned (t':=s.toks) (λb o hb e=>eb b o hb e) f0 f1 f3 f4 f5⟩
 self:=λ_ _ _ _ _ st h=>wpAny_pyIter_rangeiter st h
section
variable{X:Cx}{tg:Expr}
noncomputable def zn1(K:PySem.W.Frag)(tl:TE):TI:=λσ H R=>tl σ H λx H1=>∃a,x= .ref a/\(∃xs,SqL K H1 a xs)/\R (Itl K a) H1
noncomputable def zpJ(K:PySem.W.Frag)(tl:TE):TI:=λσ H R=>tl σ H λx H1=>∃a,x= .ref a/\(∃xs,SqT K H1 a xs)/\R (Itt K a) H1
theorem znC{l:Expr}{tl:TE}(hl:PE X l tl):PI X tg l (zn1 X.K tl):=by
 intro pins s σ H R I h
 refine thn (hl pins s σ H _ I h) λv s1 ⟨x,H1,I1,r1,q1⟩=>?_
 obtain⟨a,e,⟨xs,hq⟩,q⟩:=q1
 subst e
 cases r1
 obtain⟨its,rv,p,hz⟩:=I1.list hq
 refine wpAny_pyIter_list p.isList ?_
 refine⟨s1.heap.objs.size,[s1.heap.objs.size],_,_,H1,rfl,I1.kept (t':=s1.toks) λb o e=>Heap.get?_push_of_some _ e,zku a _,⟨_,Heap.get?_push_size _ rfl,rfl,rfl⟩,λb hb=>?_,q⟩
 have e:b=s1.heap.objs.size:=by simpa using hb
 subst e
 exact I1.fpOk (Nat.le_refl _) (I1.hok.fresh (Nat.le_refl _))
theorem zpg{l:Expr}{tl:TE}(hl:PE X l tl):PI X tg l (zpJ X.K tl):=by
 intro pins s σ H R I h
 refine thn (hl pins s σ H _ I h) λv s1 ⟨x,H1,I1,r1,q1⟩=>?_
 obtain⟨a,e,⟨xs,hq⟩,q⟩:=q1
 subst e
 cases r1
 obtain⟨its,rv,p,hz⟩:=I1.tuple hq
 refine wpAny_pyIter_tuple (show s1.heap.IsTuple a its.toArray from p) ?_
 refine⟨s1.heap.objs.size,[s1.heap.objs.size],_,_,H1,rfl,I1.kept (t':=s1.toks) λb o e=>Heap.get?_push_of_some _ e,ziU a _,⟨_,Heap.get?_push_size _ rfl,rfl,rfl⟩,λb hb=>?_,q⟩
 have e:b=s1.heap.objs.size:=by simpa using hb
 subst e
 exact I1.fpOk (Nat.le_refl _) (I1.hok.fresh (Nat.le_refl _))
theorem zhu{pins:List (Addr×Obj)}{σ:St}{H:Hp}{s:Shared}{R:It->Hp->Prop}{E:Value->Shared->Prop}{lo hi:Int}{t u v:Tok}{tk:Nat}(I:Inv X pins σ H s)(h1: -(2^62)<=lo)(h2:lo<2^62)(h3: -(2^62)<=hi)(h4:hi<2^62)
 (q:R (Itr lo (hi -lo).toNat) H):wpAny (model X.prog X.w) X.A (pyIter (.ref s.heap.objs.size)) (PIE X pins σ tg R) E {s with heap:=s.heap.push {cls:= .type "range",data:= .fields #[.int lo t, .int hi u, .int 1 v]},toks:=tk}:=by
 refine wpAny_pyIter_range (IsRange.new ..) (small_one h1 h2 h3 h4) ?_
 have I1:Inv X pins σ H {s with heap:=s.heap.push {cls:= .type "range",data:= .fields #[.int lo t, .int hi u, .int 1 v]},toks:=tk}:=I.kept λb o e=>Heap.get?_push_of_some _ e
 refine⟨(s.heap.push {cls:= .type "range",data:= .fields #[.int lo t, .int hi u, .int 1 v]}).objs.size,[(s.heap.push {cls:= .type "range",data:= .fields #[.int lo t, .int hi u, .int 1 v]}).objs.size],_,_,H,rfl,
  I1.kept (t':=tk) λb o e=>Heap.get?_push_of_some _ e,ziF _ lo (hi -lo).toNat,?_,λb hb=>?_,q⟩
 ·have e1:lo+((0:Nat):Int)*1=lo:=by simp
  have e2:(((hi -lo).toNat:Nat):Int) -((0:Nat):Int)=Builtin.Range.rangeSize lo hi 1:=by rw[rangeSize_one];split<;>omega
  show IsRangeIter _ _ (lo+((0:Nat):Int)*1) ((((hi -lo).toNat:Nat):Int) -((0:Nat):Int)) 1
  rw[e1,e2]
  exact Heap.get?_push_size _ rfl
 ·have e:b=(s.heap.push {cls:= .type "range",data:= .fields #[.int lo t, .int hi u, .int 1 v]}).objs.size:=by simpa using hb
  subst e
  exact I1.fpOk (Nat.le_refl _) (I1.hok.fresh (Nat.le_refl _))
noncomputable def zoj(ta:TA):TI:=λσ H R=>ta σ H λvs H1=>∃j:Int,vs=[.int j]/\-(2^62)<=j/\j<2^62/\R (Itr 0 j.toNat) H1
noncomputable def zog(ta:TA):TI:=λσ H R=>ta σ H λvs H1=>∃i j:Int,vs=[.int i, .int j]/\(-(2^62)<=i/\i<2^62/\-(2^62)<=j/\j<2^62)/\R (Itr i (j -i).toNat) H1
theorem zkJ{a:Expr}{ta:TA}{p pos:Pos}(hg:Gl X "range")(hm:X.mg "range"=none)(ha:PA X [a] ta)(hs:starEach [a] X.env=[(false,eval a X.env)]:=by rfl):PI X tg (.Call (.Name "range" p) [a] [] pos) (zoj ta):=by
 intro pins s σ H R I h
 refine Call_ (zgP I hg hm boot_range (PyProof.Rows.callWith_type1 (thn (ha pos pins s σ H _ I h) λus s1 ⟨vs,H1,I1,r1,q1⟩=>?_) hs rfl))
 obtain⟨j,e,q1,q2,q⟩:=q1
 subst e
 cases r1 with
 |cons r rr=>
  cases rr
  obtain⟨t,rfl⟩:=r
  exact call_range_1 (zhu I1 (by omega) (by omega) q1 q2 (by simpa using q))
theorem zkA{a b:Expr}{ta:TA}{p pos:Pos}(hg:Gl X "range")(hm:X.mg "range"=none)(ha:PA X [a,b] ta)(hs:starEach [a,b] X.env=[(false,eval a X.env),(false,eval b X.env)]:=by rfl)(hs2:starEach [b] X.env=[(false,eval b X.env)]:=by rfl):
 PI X tg (.Call (.Name "range" p) [a,b] [] pos) (zog ta):=by
 intro pins s σ H R I h
 refine Call_ (zgP I hg hm boot_range (PyProof.Rows.callWith_type1 (thn (ha pos pins s σ H _ I h) λus s1 ⟨vs,H1,I1,r1,q1⟩=>?_) (by rw[hs,hs2]) (by rw[hs2];rfl)))
 obtain⟨i,j,e,⟨q1,q2,q3,q4⟩,q⟩:=q1
 subst e
 cases r1 with
 |cons r rr=>
  cases rr with
  |cons r' rr=>
   cases rr
   obtain⟨t,rfl⟩:=r
   obtain⟨t',rfl⟩:=r'
   exact call_range_2 (zhu I1 q1 q2 q3 q4 q)
noncomputable def zqf(wi:TI)(g:TG)(tb:TS):TS:=λD σ H=>wi σ H λJ H1=>∃W:Nat->Nat->St->Hp->Prop,(∃m,W 0 m σ H1)/\∀i m σ H,W i m σ H->
 (J.stop i H/\D.nx σ H)\/(J.go i H/\∃N:St->Hp->Prop,(∀σ' H',N σ' H'->∃m',m'<m/\W (i+1) m' σ' H')/\∀x H',J.yld i H x H'->g x σ H' λσ2 H2=>tb {D with nx:=N,ct:=N,bk:=D.nx} σ2 H2)
noncomputable def zeb(fp:List Addr)(h:Heap):List (Addr×Obj):=fp.filterMap λb=>(h.get? b).map λo=>(b,o)
theorem za7{fp:List Addr}{h:Heap}{b:Addr}{o:Obj}(hb:b∈fp)(e:h.get? b=some o):(b,o)∈zeb fp h:=List.mem_filterMap.mpr ⟨b,hb,by rw[e];rfl⟩
theorem zj6{fp:List Addr}{h:Heap}{p:Addr×Obj}(hp:p∈zeb fp h):p.1∈fp/\h.get? p.1=some p.2:=by
 obtain⟨b,hb,e⟩:=List.mem_filterMap.mp hp
 cases q:h.get? b with
 |none=>rw[q] at e;cases e
 |some o=>
  rw[q] at e
  have e':(b,o)=p:=Option.some.inj e
  subst e'
  exact⟨hb,q⟩
theorem Inv.pinned{pins:List (Addr×Obj)}{σ:St}{H:Hp}{s:Shared}{fp:List Addr}(I:Inv X pins σ H s)(hf:∀b∈fp,zeh X pins H b)(ho:∀b∈fp,∃o,s.heap.get? b=some o/\∀v,o.data≠ .cell v):Inv X (pins ++zeb fp s.heap) σ H s:=
 I.pins_of λp hp=>(List.mem_append.mp hp).elim (λz=>I.pin p (List.mem_append_right _ z)) λz=>by
  obtain⟨hb,e⟩:=zj6 z
  obtain⟨f0,f1,f2,_⟩:=hf p.1 hb
  obtain⟨o,e',d⟩:=ho p.1 hb
  rw[e] at e';cases e'
  exact⟨e,f0,f1,f2,d⟩
theorem Inv.unpinned{pins pl:List (Addr×Obj)}{σ:St}{H:Hp}{s:Shared}(I:Inv X (pins ++pl) σ H s):Inv X pins σ H s:=I.pins_of λp hp=>I.pin p (List.mem_append_right _ (List.mem_append_left _ hp))
theorem zos{iter:Expr}{body:List Stmt}{wi:TI}{g:TG}{tb:TS}{pos:Pos}(hp:PassesOwn (model X.prog X.w) X.A X.env X.xe)(hc:X.calm=true)(hi:PI X tg iter wi)(hg:PG X tg g)(hb:PSs X body tb)
 (hs:∀x,foldedSetIterable iter X.env x=pure x:=by intro _;rfl):PS X (.For tg iter body [] pos) (zqf wi g tb):=by
 intro pins s σ H D I h
 refine wpAny_For (thn (hi pins s σ H _ I h) λv s1 h1=>thn h1 λitv s2 h2=>?_) hs
 obtain⟨it,fp,tn,J,H2,e,I2,T,st2,f2,W,⟨m0,w0⟩,turn⟩:=h2
 subst e
 have stat:∀{H':Hp},(∀b∈fp,H' b=none)->∀b∈fp,zeh X pins H' b:=λhn b hb=>⟨hn b hb,(f2 b hb).2⟩
 refine codeAny_forLoop_any (λn s'=>∃i σ' H',Inv X pins σ' H' s'/\tn i s'.heap/\(∀b∈fp,H' b=none)/\W i n σ' H') ?_ m0 ⟨0,σ,H2,I2,st2,λb hb=>(f2 b hb).1,w0⟩
 rintro n s3 ⟨i,σ3,H3,I3,st3,fr3,w3⟩
 rcases turn i n σ3 H3 w3 with⟨stop,qn⟩|⟨go,N,hN,step⟩
 ·refine wpAny_passesOwn hp (thn (T.done X rfl rfl rfl hc i pins s3 σ3 H3 X.xe I3 (stat fr3) st3 stop) λr s4 ⟨hr,I4⟩=>?_)
  subst hr
  exact wpAny_execs_nil ⟨σ3,H3,I4,qn⟩
 ·refine wpAny_passesOwn hp (thn (T.item X rfl rfl rfl hc i pins s3 σ3 H3 X.xe I3 (stat fr3) st3 go) λr s4 ⟨u,hr,h4⟩=>?_)
  subst hr
  refine wpAny_passesOwn hp (thn h4 λ_ s5 ⟨x,H5,I5,r5,y5,st5,fr5⟩=>?_)
  have I5':=I5.pinned (stat fr5) (T.obj _ _ st5)
  refine wpAny_passesOwn hp (thn (hg _ s5 σ3 H5 x u _ I5' r5 (step x H5 y5)) λ_ s6 ⟨σ6,H6,I6,q6⟩=>?_)
  refine wpAny_passesOwn hp (thn (hb _ s6 σ6 H6 _ I6 q6) λf s7 q7=>?_)
  have again:∀{σ7:St} {H7:Hp},Inv X (pins ++zeb fp s5.heap) σ7 H7 s7->N σ7 H7->∃m,m<n/\∃i σ' H',Inv X pins σ' H' s7/\tn i s7.heap/\(∀b∈fp,H' b=none)/\W i m σ' H':=λ{σ7 H7} I7 n7=>by
   obtain⟨m',hm,w7⟩:=hN σ7 H7 n7
   refine⟨m',hm,i+1,σ7,H7,I7.unpinned,T.keep _ _ _ st5 λb hb o e=>(I7.pin (b,o) (List.mem_append_right _ (List.mem_append_right _ (za7 hb e)))).1,λb hb=>?_,w7⟩
   obtain⟨o,e,d⟩:=T.obj _ _ st5 b hb
   exact(I7.pin (b,o) (List.mem_append_right _ (List.mem_append_right _ (za7 hb e)))).2.1
  cases f with
  |next=>obtain ⟨σ7,H7,I7,n7⟩:=q7;exact again I7 n7
  |cont=>obtain ⟨σ7,H7,I7,n7⟩:=q7;exact again I7 n7
  |brk=>obtain ⟨σ7,H7,I7,q7⟩:=q7;exact⟨σ7,H7,I7.unpinned,q7⟩
  |ret v=>obtain ⟨x7,σ7,H7,I7,r7,q7⟩:=q7;exact⟨x7,σ7,H7,I7.unpinned,r7,q7⟩
end
noncomputable abbrev R2:=V->V->Hp->VK->Prop
def OpR(X:Cx)(f:Value->Value->Sem Value)(r:R2):Prop:=
 ∀(pins:List (Addr×Obj)) (s:Shared) (σ:St) (H:Hp) (x y:V) (v u:Value) (Q:VK),Inv X pins σ H s->RelV x v->RelV y u->r x y H Q->
  wpAny (model X.prog X.w) X.A (f v u) (EP X pins σ Q) X.xe s
def UnR(X:Cx)(f:Value->Sem Value)(r:V->Hp->VK->Prop):Prop:=
 ∀(pins:List (Addr×Obj)) (s:Shared) (σ:St) (H:Hp) (x:V) (v:Value) (Q:VK),Inv X pins σ H s->RelV x v->r x H Q->
  wpAny (model X.prog X.w) X.A (f v) (EP X pins σ Q) X.xe s
def CallR(X:Cx)(f:Value)(r:List V->Hp->VK->Prop):Prop:=
 ∀(pins:List (Addr×Obj)) (s:Shared) (σ:St) (H:Hp) (xs:List V) (us:List Value) (Q:VK),Inv X pins σ H s->Vals xs us->r xs H Q->
  wpAny (model X.prog X.w) X.A (call f us) (EP X pins σ Q) X.xe s
def zp6(X:Cx)(r:V->Hp->(Bool->Hp->Prop)->Prop):Prop:=
 ∀(pins:List (Addr×Obj)) (s:Shared) (σ:St) (H:Hp) (x:V) (v:Value) (Q:Bool->Hp->Prop),Inv X pins σ H s->RelV x v->r x H Q->
  wpAny (model X.prog X.w) X.A (truthy v) (TP X pins σ Q) X.xe s
noncomputable def tOp(r:R2)(ta tb:TE):TE:=λσ H Q=>ta σ H λx H1=>tb σ H1 λy H2=>r x y H2 Q
def tUn(r:V->Hp->VK->Prop)(ta:TE):TE:=λσ H Q=>ta σ H λx H1=>r x H1 Q
def rI(C:Int->Int->Prop)(g:Int->Int->V):R2:=λx y H Q=>∃i j,x= .int i/\y= .int j/\C i j/\Q (g i j) H
noncomputable def rI0(g:Int->Int->V):R2:=λx y H Q=>∃i j,x= .int i/\y= .int j/\Q (g i j) H
def rU(g:Int->V):V->Hp->VK->Prop:=λx H Q=>∃i,x= .int i/\Q (g i) H
section
variable{X:Cx}{a b c:Expr}{ta tb tc:TE}{pos:Pos}
theorem zoD(ha:PE X a ta)(hb:PE X b tb){pins:List (Addr×Obj)}{s:Shared}{σ:St}{H:Hp}{R:V->V->Hp->Prop}(I:Inv X pins σ H s)
 (h:ta σ H λx H1=>tb σ H1 λy H2=>R x y H2) {Q:Value->Shared->Prop} {f:Value->Value->Sem Value}
 (hf:∀v u s2 x y H2,Inv X pins σ H2 s2->RelV x v->RelV y u->R x y H2->wpAny (model X.prog X.w) X.A (f v u) Q X.xe s2):
 wpAny (model X.prog X.w) X.A (eval a X.env) (λv s₁=>wpAny (model X.prog X.w) X.A (eval b X.env) (λu s₂=>wpAny (model X.prog X.w) X.A (f v u) Q X.xe s₂) X.xe s₁) X.xe s:=by
 refine thn (ha pins s σ H _ I h) λv s1 ⟨x,H1,I1,r1,q1⟩=>?_
 refine thn (hb pins s1 σ H1 _ I1 q1) λu s2 ⟨y,H2,I2,r2,q2⟩=>?_
 exact hf v u s2 x y H2 I2 r1 r2 q2
theorem zpS{op:Operator}{r:R2}(ho:OpR X (binaryOp op) r)(ha:PE X a ta)(hb:PE X b tb):PE X (.BinOp a op b pos) (tOp r ta tb):=by
 intro pins s σ H Q I h
 exact wpAny_BinOp (zoD ha hb I h λv u s2 x y H2 I2 rx ry q=>ho pins s2 σ H2 x y v u Q I2 rx ry q)
theorem zps{op:UnaryOp}{r:V->Hp->VK->Prop}(ho:UnR X (unaryOp op) r)(ha:PE X a ta):PE X (.UnaryOp op a pos) (tUn r ta):=by
 intro pins s σ H Q I h
 exact UnaryOp_ (thn (ha pins s σ H _ I h) λv s1 ⟨x,H1,I1,r1,q1⟩=>ho pins s1 σ H1 x v Q I1 r1 q1)
theorem opI{f:Value->Value->Sem Value}{C:Int->Int->Prop}{g:Int->Int->Int}
 (rule:∀(i j:Int) (t u:Tok) (s:Shared) (Q:Value->Shared->Prop) (E:Value->Shared->Prop),C i j->Q (.int (g i j) s.toks) {s with toks:=s.toks+1}->wpAny (model X.prog X.w) X.A (f (.int i t) (.int j u)) Q E s):
 OpR X f (rI C λi j=> .int (g i j)):=by
 intro pins s σ H x y v u Q I rx ry h
 obtain⟨i,j,rfl,rfl,hc,q⟩:=h
 obtain⟨t,rfl⟩:=rx
 obtain⟨t',rfl⟩:=ry
 exact rule i j t t' s _ _ hc ⟨.int (g i j),H,I.tok _,⟨_,rfl⟩,q⟩
theorem zpN{f:Value->Value->Sem Value}{g:Int->Int->Int}
 (rule:∀(i j:Int) (t u:Tok) (s:Shared) (Q:Value->Shared->Prop) (E:Value->Shared->Prop),Q (.int (g i j) s.toks) {s with toks:=s.toks+1}->wpAny (model X.prog X.w) X.A (f (.int i t) (.int j u)) Q E s):
 OpR X f (rI0 λi j=> .int (g i j)):=by
 intro pins s σ H x y v u Q I rx ry h
 obtain⟨i,j,rfl,rfl,q⟩:=h
 obtain⟨t,rfl⟩:=rx
 obtain⟨t',rfl⟩:=ry
 exact rule i j t t' s _ _ ⟨.int (g i j),H,I.tok _,⟨_,rfl⟩,q⟩
theorem zni{f:Value->Value->Sem Value}{g:Int->Int->Bool}
 (rule:∀(i j:Int) (t u:Tok) (s:Shared) (Q:Value->Shared->Prop) (E:Value->Shared->Prop),Q (.bool (g i j)) s->wpAny (model X.prog X.w) X.A (f (.int i t) (.int j u)) Q E s):
 OpR X f (rI0 λi j=> .bl (g i j)):=by
 intro pins s σ H x y v u Q I rx ry h
 obtain⟨i,j,rfl,rfl,q⟩:=h
 obtain⟨t,rfl⟩:=rx
 obtain⟨t',rfl⟩:=ry
 exact rule i j t t' s _ _ ⟨.bl (g i j),H,I,rfl,q⟩
def zp7(i j:Int):Prop:=0<j/\j<1073741824
def zoo(i j:Int):Prop:=0<=j/\j<=1000000/\i.natAbs<2^64
def CMul(i j:Int):Prop:=(-(2^64)<i/\i<2^64)\/(-(2^64)<j/\j<2^64)
theorem CMul.ok{i j:Int}(h:CMul i j):IntMulOk i j:=by
 rcases h with⟨h1,h2⟩|⟨h1,h2⟩
 ·exact .of_left (intBits_le_64 h1 h2)
 ·exact .of_right (intBits_le_64 h1 h2)
theorem ziK(k:Nat):(0:Int)<=2^k:=by
 rw[two_pow_cast]
 exact Int.natCast_nonneg _
theorem z7:OpR X (binaryOp .Add) (rI0 λi j=> .int (i+j)):=zpN λ_ _ _ _ _ _ _ q=>add_int q
theorem zoQ:OpR X (binaryOp .Sub) (rI0 λi j=> .int (i -j)):=zpN λ_ _ _ _ _ _ _ q=>sub_int q
theorem za5:OpR X (binaryOp .Mult) (rI CMul λi j=> .int (i*j)):=opI λ_ _ _ _ _ _ _ hc q=>mul_int q hc.ok
theorem zgY:OpR X (binaryOp .FloorDiv) (rI zp7 λi j=> .int (i/j)):=opI λi j _ _ _ _ _ hc q=>by
 have h1:(0:Int)<j:=hc.1
 have h2:j<1073741824:=hc.2
 exact floordiv_int (by omega) (by rw[Int.fdiv_eq_ediv_of_nonneg i (by omega)];exact q) (.inl (PyProof.noPylong_small (by omega)))
theorem zbS:OpR X (binaryOp .Mod) (rI (λ_ j=>0<j) λi j=> .int (i%j)):=opI λi j _ _ _ _ _ hc q=>by
 have h1:(0:Int)<j:=hc
 exact mod_int' (by omega) (by rw[Int.fmod_eq_emod_of_nonneg i (by omega)];exact q)
theorem zec:OpR X (binaryOp .Pow) (rI zoo λi j=> .int (i^j.toNat)):=opI λ_ _ _ _ _ _ _ hc q=>pow_int_small hc.1 hc.2.1 hc.2.2 q
theorem unI{f:Value->Sem Value}{g:Int->Int}
 (rule:∀(i:Int) (t:Tok) (s:Shared) (Q:Value->Shared->Prop) (E:Value->Shared->Prop),Q (.int (g i) s.toks) {s with toks:=s.toks+1}->wpAny (model X.prog X.w) X.A (f (.int i t)) Q E s):
 UnR X f (rU λi=> .int (g i)):=by
 intro pins s σ H x v Q I rx h
 obtain⟨i,rfl,q⟩:=h
 obtain⟨t,rfl⟩:=rx
 exact rule i t s _ _ ⟨.int (g i),H,I.tok _,⟨_,rfl⟩,q⟩
theorem zdy:UnR X (unaryOp .USub) (rU λi=> .int (-i)):=unI λ_ _ _ _ _ q=>neg_int q
end
noncomputable def zoR:V->V->Bool
 | .non, .non=>true| .non, .int _=>true| .int _, .non=>true| .non, .bl _=>true| .bl _, .non=>true| .non, .str _=>true| .str _, .non=>true
 | .int _, .int _=>true| .bl _, .bl _=>true| .str _, .str _=>true| .byt _, .byt _=>true
 | .int _, .str _=>true| .str _, .int _=>true| .bl _, .str _=>true| .str _, .bl _=>true
 |_,_=>false
noncomputable def rEq:R2:=λx y H Q=>zoR x y=true/\Q (.bl (decide (x=y))) H
noncomputable def rNe:R2:=λx y H Q=>zoR x y=true/\Q (.bl (!decide (x=y))) H
theorem zjQ{i j:Int}:decide (V.int i=V.int j)=(i==j):=by
 rw[Bool.eq_iff_iff]
 simp
theorem zmf{i j:Bool}:decide (V.bl i=V.bl j)=(i==j):=by
 rw[Bool.eq_iff_iff]
 simp
theorem zjO{i j:Str}:decide (V.str i=V.str j)=(i==j):=by
 rw[Bool.eq_iff_iff]
 simp
theorem zjX{i j:Array UInt8}:decide (V.byt i=V.byt j)=(i.toList==j.toList):=by
 rw[Bool.eq_iff_iff]
 cases i
 cases j
 simp
section
variable{X:Cx}{a b c:Expr}{ta tb tc:TE}{pos:Pos}
theorem zG{pins:List (Addr×Obj)}{σ:St}{H:Hp}{s:Shared}{Q:VK}{k k':Bool}(I:Inv X pins σ H s)(q:Q (.bl k) H)(e:k=k'):EP X pins σ Q (.bool k') s:=by
 subst e
 exact⟨.bl k,H,I,rfl,q⟩
theorem zaL:OpR X (compareOp .Eq) rEq:=by
 intro pins s σ H x y v u Q I rx ry h
 obtain⟨hs,q⟩:=h
 cases x with
 |non=>
  cases rx
  cases y with
  |non=>cases ry;exact PySem.EqNone.eq_none_none (zG I q (by simp))
  |bl j=>cases ry;exact PySem.EqNone.eq_none_bool (zG I q (by simp))
  |int j=>obtain ⟨t',rfl⟩:=ry;exact PySem.EqNone.eq_none_int (zG I q (by simp))
  |str j=>obtain ⟨t',rfl⟩:=ry;exact PySem.EqNone.eq_none_str (zG I q (by simp))
  |_=>exact absurd (show false=true from hs) Bool.false_ne_true
 |bl i=>
  cases rx
  cases y with
  |non=>cases ry;exact PySem.EqNone.eq_bool_none (zG I q (by simp))
  |bl j=>cases ry;exact eq_bool (zG I q zmf)
  |str j=>obtain ⟨t',rfl⟩:=ry;exact PySem.EqMixed.eq_bool_str (zG I q (by simp))
  |_=>exact absurd (show false=true from hs) Bool.false_ne_true
 |int i=>
  obtain⟨t,rfl⟩:=rx
  cases y with
  |non=>cases ry;exact PySem.EqNone.eq_int_none (zG I q (by simp))
  |int j=>obtain ⟨t',rfl⟩:=ry;exact eq_int (zG I q zjQ)
  |str j=>obtain ⟨t',rfl⟩:=ry;exact PySem.EqMixed.eq_int_str (zG I q (by simp))
  |_=>exact absurd (show false=true from hs) Bool.false_ne_true
 |str i=>
  obtain⟨t,rfl⟩:=rx
  cases y with
  |non=>cases ry;exact PySem.EqNone.eq_str_none (zG I q (by simp))
  |bl j=>cases ry;exact PySem.EqMixed.eq_str_bool (zG I q (by simp))
  |int j=>obtain ⟨t',rfl⟩:=ry;exact PySem.EqMixed.eq_str_int (zG I q (by simp))
  |str j=>obtain ⟨t',rfl⟩:=ry;exact eq_str (zG I q zjO)
  |_=>exact absurd (show false=true from hs) Bool.false_ne_true
 |byt i=>
  obtain⟨t,rfl⟩:=rx
  cases y with
  |byt j=>obtain ⟨t',rfl⟩:=ry;exact PySem.W.eq_bytes (zG I q zjX)
  |_=>exact absurd (show false=true from hs) Bool.false_ne_true
 |_=>cases y<;>exact absurd (show false=true from hs) Bool.false_ne_true
theorem zhS:OpR X (compareOp .NotEq) rNe:=by
 intro pins s σ H x y v u Q I rx ry h
 obtain⟨hs,q⟩:=h
 cases x with
 |non=>
  cases rx
  cases y with
  |non=>cases ry;exact PySem.EqNone.ne_none_none (zG I q (by simp))
  |bl j=>cases ry;exact PySem.EqNone.ne_none_bool (zG I q (by simp))
  |int j=>obtain ⟨t',rfl⟩:=ry;exact PySem.EqNone.ne_none_int (zG I q (by simp))
  |str j=>obtain ⟨t',rfl⟩:=ry;exact PySem.EqNone.ne_none_str (zG I q (by simp))
  |_=>exact absurd (show false=true from hs) Bool.false_ne_true
 |bl i=>
  cases rx
  cases y with
  |non=>cases ry;exact PySem.EqNone.ne_bool_none (zG I q (by simp))
  |bl j=>cases ry;exact ne_bool (zG I q (congrArg not zmf))
  |str j=>obtain ⟨t',rfl⟩:=ry;exact PySem.EqMixed.ne_bool_str (zG I q (by simp))
  |_=>exact absurd (show false=true from hs) Bool.false_ne_true
 |int i=>
  obtain⟨t,rfl⟩:=rx
  cases y with
  |non=>cases ry;exact PySem.EqNone.ne_int_none (zG I q (by simp))
  |int j=>obtain ⟨t',rfl⟩:=ry;exact ne_int (zG I q (congrArg not zjQ))
  |str j=>obtain ⟨t',rfl⟩:=ry;exact PySem.EqMixed.ne_int_str (zG I q (by simp))
  |_=>exact absurd (show false=true from hs) Bool.false_ne_true
 |str i=>
  obtain⟨t,rfl⟩:=rx
  cases y with
  |non=>cases ry;exact PySem.EqNone.ne_str_none (zG I q (by simp))
  |bl j=>cases ry;exact PySem.EqMixed.ne_str_bool (zG I q (by simp))
  |int j=>obtain ⟨t',rfl⟩:=ry;exact PySem.EqMixed.ne_str_int (zG I q (by simp))
  |str j=>obtain ⟨t',rfl⟩:=ry;exact ne_str (zG I q (congrArg not zjO))
  |_=>exact absurd (show false=true from hs) Bool.false_ne_true
 |byt i=>
  obtain⟨t,rfl⟩:=rx
  cases y with
  |byt j=>obtain ⟨t',rfl⟩:=ry;exact PySem.W.ne_bytes (zG I q (congrArg not zjX))
  |_=>exact absurd (show false=true from hs) Bool.false_ne_true
 |_=>cases y<;>exact absurd (show false=true from hs) Bool.false_ne_true
theorem zn8:OpR X (compareOp .Lt) (rI0 λi j=> .bl (decide (i<j))):=zni λ_ _ _ _ _ _ _ q=>lt_int q
theorem zpG:OpR X (compareOp .LtE) (rI0 λi j=> .bl (decide (i<=j))):=zni λ_ _ _ _ _ _ _ q=>le_int q
theorem zjd:OpR X (compareOp .Gt) (rI0 λi j=> .bl (decide (j<i))):=zni λ_ _ _ _ _ _ _ q=>gt_int q
theorem zom:OpR X (compareOp .GtE) (rI0 λi j=> .bl (decide (j<=i))):=zni λ_ _ _ _ _ _ _ q=>ge_int q
theorem zgN:OpR X (compareOp .Is) (λx y H Q=>y= .non/\Q (.bl (decide (x= .non))) H):=by
 intro pins s σ H x y v u Q I rx ry h
 obtain⟨rfl,q⟩:=h
 cases ry
 refine is_none_gen (zG I q ?_)
 cases x<;>first
  |(cases rx;rfl)
  |(obtain⟨t,rfl⟩:=rx;rfl)
theorem zm5:OpR X (compareOp .IsNot) (λx y H Q=>y= .non/\Q (.bl (!decide (x= .non))) H):=by
 intro pins s σ H x y v u Q I rx ry h
 obtain⟨rfl,q⟩:=h
 cases ry
 refine isnot_none_gen (zG I q ?_)
 cases x<;>first
  |(cases rx;rfl)
  |(obtain⟨t,rfl⟩:=rx;rfl)
theorem zmC{op:CmpOp}{r:R2}(ho:OpR X (compareOp op) r)(ha:PE X a ta)(hb:PE X b tb)(hm:behindInMarks op b=false):PE X (.Compare a [op] [b] pos) (tOp r ta tb):=by
 intro pins s σ H Q I h
 exact wpAny_Compare1 (zoD ha hb I h λv u s2 x y H2 I2 rx ry q=>ho pins s2 σ H2 x y v u Q I2 rx ry q) hm
noncomputable def znW(t:TE):TT:=λσ H Q=>t σ H λx H'=>∃k,x= .bl k/\Q k H'
theorem zmA{op:CmpOp}{r:R2}(ho:OpR X (compareOp op) r)(ha:PE X a ta)(hb:PE X b tb)(hm:behindInMarks op b=false):PT X (.Compare a [op] [b] pos) (znW (tOp r ta tb)):=by
 intro pins s σ H Q I h
 refine wpAny_isTrue_Compare1 (thn (ha pins s σ H _ I h) λv s1 ⟨x,H1,I1,r1,q1⟩=>thn (hb pins s1 σ H1 _ I1 q1) λu s2 ⟨y,H2,I2,r2,q2⟩=>
  thn (ho pins s2 σ H2 x y v u _ I2 r1 r2 q2) λc s3 ⟨z,H3,I3,r3,k,e,q3⟩=>?_) hm
 subst e
 cases r3
 exact wpAny_truthy_bool ⟨H3,I3,q3⟩
def zou(K:PySem.W.Frag)(x:V)(H:Hp)(k:Bool):Prop:=
 match x with
 | .non=>k=false
 | .bl b=>k=b
 | .int i=>k=(i !=0)
 | .str y=>y.length<=sizeLine/\k=((y.length:Int) !=0)
 | .byt y=>y.size<=sizeLine/\k=((y.size:Int) !=0)
 | .ref p=>(∃xs,SqL K H p xs/\k=!xs.isEmpty)\/(∃xs,SqT K H p xs/\k=!xs.isEmpty)\/∃kvs,H p=some (.dK kvs)/\k=!kvs.isEmpty
 |_=>False
theorem ziO{κ:Type}{kvs:List (κ×V)}{vs:List (κ×Value)}(r:KV kvs vs):(!vs.isEmpty)=!kvs.isEmpty:=by
 cases r<;>rfl
theorem zfj{xs:List V}{its:List Value}(r:Vals xs its):(!its.toArray.isEmpty)=!xs.isEmpty:=by
 cases r<;>simp
theorem zdv:(sizeLine:Nat)<2^63:=by rw[sizeLine_eq];decide
theorem zow:zp6 X (λx H Q=>∃k,zou X.K x H k/\Q k H):=by
 intro pins s σ H x v Q I rx h
 obtain⟨k,e,q⟩:=h
 have hl:=zdv
 have hs:sizeLine=16777216:=sizeLine_eq
 cases x with
 |non=>
  cases rx
  have e':k=false:=e
  subst e'
  exact truthy_none ⟨H,I,q⟩
 |bl b=>
  cases rx
  have e':k=b:=e
  subst e'
  exact wpAny_truthy_bool ⟨H,I,q⟩
 |int i=>
  obtain⟨t,rfl⟩:=rx
  have e':k=(i !=0):=e
  subst e'
  exact PySem.P.truthy_int ⟨H,I,q⟩
 |str y=>
  obtain⟨t,rfl⟩:=rx
  obtain⟨hy,e'⟩:y.length<=sizeLine/\k=((y.length:Int) !=0):=e
  subst e'
  exact PySem.P.truthy_str (by omega) ⟨H,I.tok _,q⟩
 |byt y=>
  obtain⟨t,rfl⟩:=rx
  obtain⟨hy,e'⟩:y.size<=sizeLine/\k=((y.size:Int) !=0):=e
  subst e'
  exact PySem.W.truthy_bytes (by omega) ⟨H,I.tok _,q⟩
 |ref p=>
  cases rx
  have e':(∃xs,SqL X.K H p xs/\k=!xs.isEmpty)\/(∃xs,SqT X.K H p xs/\k=!xs.isEmpty)\/∃kvs,H p=some (.dK kvs)/\k=!kvs.isEmpty:=e
  rcases e' with⟨xs,hx,e'⟩|⟨xs,hx,e'⟩|⟨kvs,hx,e'⟩
  ·subst e'
   obtain⟨its,r,pl,hz⟩:=I.list hx
   have hlen:=r.length
   exact wpAny_truthy_list pl.isList (by simp only[List.size_toArray];omega) ⟨H,I.tok _,by rw[zfj r];exact q⟩
  ·subst e'
   obtain⟨its,r,pl,hz⟩:=I.tuple hx
   have hlen:=r.length
   exact truthy_tuple pl (by simp only[List.size_toArray];omega) ⟨H,I.tok _,by rw[zfj r];exact q⟩
  ·subst e'
   obtain⟨hz,hS,vs,r,m⟩:kvs.length<=sizeLine/\(p==sysModules)=false/\∃vs,KV kvs vs/\s.heap.DictOf (zW X.prog X.w) p vs:=I.hok p _ hx
   have hlen:kvs.length=vs.length:=Paired.length r
   exact wpAny_truthy_dict hS m (by omega) ⟨H,I.tok _,by rw[ziO r];exact q⟩
 |_=>exact (show False from e).elim
theorem zmn(ha:PE X a ta)(he:∀whole,isTrue a X.env whole=(do let v ←whole;standAt a.pos;holding [v] (truthy v))):
 PT X a (λσ H Q=>ta σ H λx H'=>∃k,zou X.K x H' k/\Q k H'):=by
 intro pins s σ H Q I h
 exact isTrue_plain (thn (ha pins s σ H _ I h) λv s1 ⟨x,H1,I1,r1,q1⟩=>zow pins s1 σ H1 x v Q I1 r1 q1) (he _)
theorem zcN{x:V}{us:List Value}(r:Vals [x] us):∃u,us=[u]/\RelV x u:=by
 cases r with
 |cons r1 r2=>cases r2;exact⟨_,rfl,r1⟩
theorem zih{x y:V}{us:List Value}(r:Vals [x,y] us):∃u w',us=[u,w']/\RelV x u/\RelV y w':=by
 cases r with
 |cons r1 r2=>
  cases r2 with
  |cons r3 r4=>cases r4;exact⟨_,_,rfl,r1,r3⟩
theorem zf5(hc:X.calm=true):CallR X (.builtin "max") (λxs H Q=>∃i j,xs=[.int i, .int j]/\Q (.int (if j>i then j else i)) H):=by
 intro pins s σ H xs us Q I r h
 obtain⟨i,j,rfl,q⟩:=h
 obtain⟨u,w',rfl,⟨t,rfl⟩,⟨t',rfl⟩⟩:=zih r
 refine max_two_ints (I.ok.hd hc) λh' tk k=>⟨_,H,I.kept k,?_,q⟩
 by_cases hj:j>i
 ·rw[if_pos hj,if_pos hj];exact⟨_,rfl⟩
 ·rw[if_neg hj,if_neg hj];exact⟨_,rfl⟩
theorem zek(hc:X.calm=true):CallR X (.builtin "min") (λxs H Q=>∃i j,xs=[.int i, .int j]/\Q (.int (if j<i then j else i)) H):=by
 intro pins s σ H xs us Q I r h
 obtain⟨i,j,rfl,q⟩:=h
 obtain⟨u,w',rfl,⟨t,rfl⟩,⟨t',rfl⟩⟩:=zih r
 refine min_two_ints (I.ok.hd hc) λh' tk k=>⟨_,H,I.kept k,?_,q⟩
 by_cases hj:j<i
 ·rw[if_pos hj,if_pos hj];exact⟨_,rfl⟩
 ·rw[if_neg hj,if_neg hj];exact⟨_,rfl⟩
theorem zcv:CallR X (.type "int") (λxs H Q=>(∃i,xs=[.int i]/\Q (.int i) H)\/∃k,xs=[.bl k]/\Q (.int (if k then 1 else 0)) H):=by
 intro pins s σ H xs us Q I r h
 rcases h with⟨i,rfl,q⟩|⟨k,rfl,q⟩
 ·obtain ⟨u,rfl,t,rfl⟩:=zcN r
  exact call_int_int ⟨.int i,H,I,⟨_,rfl⟩,q⟩
 ·obtain ⟨u,rfl,r1⟩:=zcN r
  cases r1
  exact call_int_bool ⟨.int (if k then 1 else 0),H,I.tok _,⟨_,rfl⟩,q⟩
end
structure ObjM(h:Heap)(x dx C:Addr)(mA:Str->Option Value):Prop where
 obj:h.get? x=some (PySem.W.instObj C dx)
 ns:h.Ns1 dx mA
 ne:dx≠x
theorem zkv{h:Heap}{dx:Addr}{mA:Str->Option Value}(n:h.Ns1 dx mA):∃od,h.get? dx=some od/\∀name,PySem.W.lookIn name od=some (mA name):=by
 obtain⟨o,es,ep,ho,hd,hk,_,hm⟩:=n
 refine⟨o,ho,λname=>?_⟩
 have e:=hm name
 unfold nsFind findBy at e
 rw[←Array.find?_toList] at e
 unfold PySem.W.lookIn
 rw[hd]
 dsimp only
 split
 ·rename_i y q
  rw[q] at e
  exact congrArg some e
 ·rename_i q
  rw[q] at e
  have a:es.toList.any (·.refKey)=false:=by
   rw[List.any_eq_false]
   intro y hy
   obtain⟨z,t,hkey⟩:=hk y (Array.mem_toList_iff.mp hy)
   simp[DictEntry.refKey,hkey]
  have a':¬es.toList.any (·.refKey)=true:=by rw[a];exact Bool.false_ne_true
  rw[if_neg a']
  exact congrArg some e
theorem ObjM.look{h:Heap}{x dx C:Addr}{mA:Str->Option Value}(I:ObjM h x dx C mA):∃od,PySem.W.InstAt h x (PySem.W.instObj C dx) C (some od)/\∀name,PySem.W.lookIn name od=some (mA name):=
 let⟨od,ho,hl⟩:=zkv I.ns
 ⟨od,⟨I.obj,rfl,rfl,ho⟩,hl⟩
section
variable{prog:Program}{w:World}{A:Around}{E:Value->Shared->Prop}{s:Shared}{K:PySem.W.Frag}{x dx C f:Addr}{mA:Str->Option Value}{name:Str}{v:Value}
theorem znR{expr:Bool}{Q:Value->Shared->Prop}(X:K.In s.heap)(I:ObjM s.heap x dx C mA)(hg:PySem.W.plainGet K C name=true)(hh:PySem.W.hasDictIn K C=true)
 (ha:PySem.W.findIn K (.ref C) name=some none) (hv:mA name=some v) (hv':PySem.W.handedIn v=true) (h:Q v {s with toks:=s.toks+1}):
 wpAny (model prog w) A (getAttr (.ref x) name expr) Q E s:=by
 obtain⟨od,J,hl⟩:=I.look
 exact PySem.W.get_value X J (PySem.W.plainGet_of hg).1 (PySem.W.findObj_own hh ha rfl (by rw[hl,hv])) hv' h
theorem zmo{pl:Sem Bool}{Q:Value×List Value->Shared->Prop}(X:K.In s.heap)(I:ObjM s.heap x dx C mA)(hg:PySem.W.plainGet K C name=true)
 (hf:PySem.W.findIn K (.ref C) name=some (some (.ref f))) (ht:PySem.W.isFn K (.ref f)=true) (hv:mA name=none) (h:Q (.ref f,[.ref x]) s):
 wpAny (model prog w) A (getMethod (.ref x) name pl) Q E s:=by
 obtain⟨od,J,hl⟩:=I.look
 exact PySem.W.method_fn X J (PySem.W.plainGet_of hg).1 (PySem.W.plainGet_of hg).2 hf (beq_iff_eq.mp ht) (by show(PySem.W.lookIn name od).map (·.isSome)=some false;rw[hl,hv];rfl) h
theorem zmZ{ns:List Str}{Q:Unit->Shared->Prop}(X:K.In s.heap)(I:ObjM s.heap x dx C mA)
 (hs:PySem.W.findIn K (.ref C) "__setattr__"=some (some (.builtin "object.__setattr__"))) (hp:PySem.W.plainOver K C=true) (ht:PySem.W.takerIn K C name=some none) (hh:PySem.W.hasDictIn K C=true)
 (hw:PySem.Within mA ns) (hsz:ns.length<=sizeLine)
 (h:∀h',ObjM h' x dx C (λy=>if y=name then some v else mA y)->Heap.SameBut dx s.heap h'->Q () {s with heap:=h',toks:=s.toks+2}):
 wpAny (model prog w) A (setAttr (.ref x) name v) Q E s:=by
 obtain⟨od,J,hl⟩:=I.look
 refine PySem.W.set_plain X J hs (PySem.W.osa_open (s:={s with toks:=s.toks+1}) (r:=none) X J hp ht λb=>?_)
 obtain⟨cd,hc,hd'⟩:=PySem.W.any_some hh
 have hx:s.heap.get? x=some ⟨.ref C,some dx, .plain, #[]⟩:=I.obj
 refine wpAny_bind (wpAny_pure (wpAny_bind (wpAny_bind (wpAny_loadPart hx (wpAny_bind (PySem.W.Looks.here (s:={s with toks:=s.toks+1}) (PySem.W.looks_clsIn X hc) ?_))))))
 rw[hd']
 refine wpAny_pure (a:=some dx) (wpAny_bind (wpAny_pure (wpAny_bind ?_)))
 refine wpAny_nsSet1 (s:={s with toks:=s.toks+1}) I.ns λh' hn2 hs2=>?_
 obtain⟨oD,esD,epD,hoD,hdD,hcD⟩:=hn2.count (PySem.Within.cons name v hw)
 refine wpAny_bind (wpAny_lookBehind hoD (by rw[hdD];exact pastItsLine_dict (Nat.le_trans hcD (by rw[List.length_cons];omega))) ?_)
 exact wpAny_pure (h _ ⟨(hs2.2 _ (Ne.symm I.ne)).trans I.obj,hn2,I.ne⟩ hs2)
theorem zkU{R:Result->Shared->Prop}{vs:List Value}{kw:List (Str×Value)}(X:K.In s.heap)(hm:PySem.W.makesIn K C=true)
 (hi:PySem.W.findIn K (.ref C) "__init__"=some (some (.ref f))) (hf:PySem.W.typeIn K (.ref f)=some (.type "function"))
 (h:codeAny (model prog w) (A.under (.builtin "type.__call__" ⟨.ref C::vs,kw⟩)) (.call (.ref f) ⟨.ref (s.heap.objs.size+1)::vs,kw⟩) (PySem.W.InitBack (s.heap.objs.size+1) R)
   {s with heap:=(s.heap.push PySem.W.emptyDict).push (PySem.W.instObj C s.heap.objs.size)}):
 codeAny (model prog w) A (.call (.ref C) ⟨vs,kw⟩) R s:=by
 obtain⟨hh,g,d,t,os⟩:=s
 exact PySem.W.make_core (PySem.W.makes_of X hm) (PySem.W.looks_findIn X hi) (λself=>PySem.W.bind_fn X self hf) (.inl rfl) h
end
noncomputable def za2(f:Str)(v:V):List (Str×V)->List (Str×V)
 |[]=> [(f,v)]
 |(g,x)::r=>if g=f then(g,v)::r else(g,x)::za2 f v r
theorem zep(f g:Str)(v:V):∀fs:List (Str×V),(za2 f v fs).lookup g=if g=f then some v else fs.lookup g
 |[]=>by
  show List.lookup g [(f,v)]=_
  by_cases h:g=f
  ·have hb:(g==f)=true:=beq_iff_eq.mpr h
   simp only[List.lookup,hb,if_pos h]
  ·have hb:(g==f)=false:=beq_eq_false_iff_ne.mpr h
   simp only[List.lookup,hb,if_neg h]
 |(k,x)::r=>by
  have ih:=zep f g v r
  rw[show za2 f v ((k,x)::r)=(if k=f then(k,v)::r else(k,x)::za2 f v r)from rfl]
  by_cases hk:k=f
  ·rw[if_pos hk]
   by_cases h:g=k
   ·have hb:(g==k)=true:=beq_iff_eq.mpr h
    simp only[List.lookup,hb,if_pos (h.trans hk)]
   ·have hb:(g==k)=false:=beq_eq_false_iff_ne.mpr h
    simp only[List.lookup,hb,if_neg (λe:g=f=>h (e.trans hk.symm))]
  ·rw[if_neg hk]
   by_cases h:g=k
   ·have hb:(g==k)=true:=beq_iff_eq.mpr h
    simp only[List.lookup,hb,if_neg (λe:g=f=>hk (h.symm.trans e))]
   ·have hb:(g==k)=false:=beq_eq_false_iff_ne.mpr h
    simp only[List.lookup,hb]
    exact ih
theorem zd9(f:Str)(v:V):∀fs:List (Str×V),f∈(za2 f v fs).map (·.1)/\∀g,g∈fs.map (·.1)->g∈(za2 f v fs).map (·.1)
 |[]=>⟨by simp[za2],λg h=>by simp at h⟩
 |(k,x)::r=>by
  obtain⟨i1,i2⟩:=zd9 f v r
  rw[show za2 f v ((k,x)::r)=(if k=f then(k,v)::r else(k,x)::za2 f v r)from rfl]
  by_cases hk:k=f
  ·rw[if_pos hk]
   subst hk
   exact⟨by simp,λg h=>by simpa using h⟩
  ·rw[if_neg hk]
   refine⟨?_,λg h=>?_⟩
   ·rw[List.map_cons]
    exact List.mem_cons_of_mem _ i1
   ·rw[List.map_cons] at h⊢
    rcases List.mem_cons.mp h with e|e
    ·exact List.mem_cons.mpr (.inl e)
    ·exact List.mem_cons_of_mem _ (i2 g e)
theorem zer(f:Str)(v:V):∀fs:List (Str×V),(za2 f v fs).length<=fs.length+1
 |[]=>by simp[za2]
 |(k,x)::r=>by
  have ih:=zer f v r
  rw[show za2 f v ((k,x)::r)=(if k=f then(k,v)::r else(k,x)::za2 f v r)from rfl]
  by_cases hk:k=f
  ·rw[if_pos hk,List.length_cons,List.length_cons];omega
  ·rw[if_neg hk,List.length_cons,List.length_cons];omega
theorem RelO.some_of{v:V}{o:Option Value}(r:RelO (some v) o):∃u,o=some u/\RelV v u:=by
 cases o with
 |none=>exact (show False from r).elim
 |some u=>exact ⟨u,rfl,r⟩
theorem RelO.none_of{o:Option Value}(r:RelO none o):o=none:=by
 cases o with
 |none=>rfl
 |some u=>exact (show False from r).elim
theorem zkz{v:V}{u:Value}(r:RelV v u):PySem.W.handedIn u=true:=by
 cases v with
 |non=>cases (show u=Value.none from r);rfl
 |bl b=>cases (show u=Value.bool b from r);rfl
 |int i=>obtain ⟨t,e⟩:=(show∃t,u=Value.int i t from r);cases e;rfl
 |str x=>obtain ⟨t,e⟩:=(show∃t,u=Value.str x t from r);cases e;rfl
 |byt b=>obtain ⟨t,e⟩:=(show∃t,u=Value.bytes b t from r);cases e;rfl
 |flt b=>obtain ⟨t,e⟩:=(show∃t,u=Value.float b t from r);cases e;rfl
 |ref a=>cases (show u=Value.ref a from r);rfl
 |ty n=>cases (show u=Value.type n from r);rfl
section
variable{P:Program}{w:World}{H H':Hp}{h h':Heap}{a C dx:Addr}{fs fs':List (Str×V)}
theorem zha(hok:HOk P w H h)(e:H a=some (.ins C dx fs)):∃mA,ObjM h a dx C mA/\(∀f,RelO (fs.lookup f) (mA f))/\PySem.Within mA (fs.map (·.1))/\fs.length<=1000/\H dx=some (.own a):=by
 obtain⟨d,z,ne,ob,mA,n,r,q⟩:=(show ObjOk P w H h a (.ins C dx fs)from hok a _ e)
 exact⟨mA,⟨ob,n,ne⟩,r,q,z,d⟩
end
structure Cls(K:PySem.W.Frag)(C:Addr):Prop where
 pg:PySem.W.plainGet K C Str.empty=true
 hd:PySem.W.hasDictIn K C=true
 po:PySem.W.plainOver K C=true
 sa:PySem.W.findIn K (.ref C) "__setattr__"=some (some (.builtin "object.__setattr__"))
theorem Cls.get{K:PySem.W.Frag}{C:Addr}(c:Cls K C)(f:Str):PySem.W.plainGet K C f=true:=c.pg
def NoAttr(K:PySem.W.Frag)(C:Addr)(f:Str):Prop:=PySem.W.findIn K (.ref C) f=some none
theorem NoAttr.taker{K:PySem.W.Frag}{C:Addr}{f:Str}(n:NoAttr K C f):PySem.W.takerIn K C f=some none:=by
 unfold PySem.W.takerIn
 rw[show PySem.W.findIn K (.ref C) f=some none from n]
 rfl
structure Con(K:PySem.W.Frag)(C:Addr)(f:Str)(v:V)(u:Value):Prop where
 at_:PySem.W.findIn K (.ref C) f=some (some u)
 rel:RelV v u
 get:PySem.W.specialIn K u "__get__"=some none
 cp:PySem.W.copiedNames.contains f=false
structure Meth(K:PySem.W.Frag)(C:Addr)(m:Str)(f:Addr):Prop where
 at_:PySem.W.findIn K (.ref C) m=some (some (.ref f))
 fn:PySem.W.isFn K (.ref f)=true
 kp:PySem.W.keepIn K (.ref f)=true
section
variable{X:Cx}{pins:List (Addr×Obj)}{σ:St}{H:Hp}{s:Shared}{a C dx:Addr}{fs:List (Str×V)}{f:Str}{v:V}{A:Around}{E:Value->Shared->Prop}
theorem ze6{b:Bool}{Q:Value->Shared->Prop}(I:Inv X pins σ H s)(e:H a=some (.ins C dx fs))(c:Cls X.K C)(n:NoAttr X.K C f)(l:fs.lookup f=some v)
 (h:∀u s',Inv X pins σ H s'->RelV v u->Q u s'):wpAny (model X.prog X.w) A (getAttr (.ref a) f b) Q E s:=by
 obtain⟨mA,O,r,_,_,_⟩:=zha I.hok e
 obtain⟨u,hu,ru⟩:=RelO.some_of (v:=v) (o:=mA f) (by rw[←l];exact r f)
 exact znR I.kIn O (c.get f) c.hd n hu (zkz ru) (h u _ (I.tok _) ru)
theorem zdx{m:Str}{g:Addr}{pl:Sem Bool}{Q:Value×List Value->Shared->Prop}(I:Inv X pins σ H s)(e:H a=some (.ins C dx fs))(c:Cls X.K C)(k:Meth X.K C m g)(l:fs.lookup m=none)
 (h:Q (.ref g,[.ref a]) s):wpAny (model X.prog X.w) A (getMethod (.ref a) m pl) Q E s:=by
 obtain⟨mA,O,r,_,_,_⟩:=zha I.hok e
 have hn:mA m=none:=RelO.none_of (by rw[←l];exact r m)
 exact zmo I.kIn O (c.get m) k.at_ k.fn hn h
theorem zfp{y:V}{u:Value}{Q:Unit->Shared->Prop}(I:Inv X pins σ H s)(e:H a=some (.ins C dx fs))(c:Cls X.K C)(n:NoAttr X.K C f)(hl:fs.length<1000)(ry:RelV y u)
 (h:∀s',Inv X pins σ (upd H a (.ins C dx (za2 f y fs))) s'->Q () s'):wpAny (model X.prog X.w) A (setAttr (.ref a) f u) Q E s:=by
 obtain⟨mA,O,r,wi,_,ho⟩:=zha I.hok e
 have hz:(fs.map (·.1)).length<=sizeLine:=by rw[List.length_map,sizeLine_eq];omega
 refine zmZ I.kIn O c.sa c.po n.taker c.hd wi hz λh' O' sb=>h _ ?_
 have hd:∃o,h'.get? dx=some o:=let⟨o,_,_,e',_⟩:=O'.ns;⟨o,e'⟩
 refine I.write (x:=a) (e:=dx) (by rw[e];exact True.intro) (.inr ho) (λb q hb z=>(sb.2 b hb).trans z) hd ?_
 refine⟨by rw[ze O.ne];exact ho,?_,O.ne,O'.obj,_,O'.ns,λg=>?_,λg hg=>?_⟩
 ·have:=zer f y fs;omega
 ·show RelO ((za2 f y fs).lookup g) (if g=f then some u else mA g)
  rw[zep]
  by_cases q:g=f
  ·rw[if_pos q,if_pos q];exact ry
  ·rw[if_neg q,if_neg q];exact r g
 ·by_cases q:g=f
  ·rw[q];exact(zd9 f y fs).1
  ·refine (zd9 f y fs).2 g (wi g λz=>hg ?_)
   show(if g=f then some u else mA g)=none
   rw[if_neg q];exact z
theorem Inv.made(I:Inv X pins σ H s):Inv X pins σ (upd (upd H s.heap.objs.size (.own (s.heap.objs.size+1))) (s.heap.objs.size+1) (.ins C s.heap.objs.size []))
 {s with heap:=(s.heap.push PySem.W.emptyDict).push (PySem.W.instObj C s.heap.objs.size)}:=by
 have e1:(s.heap.push PySem.W.emptyDict).get? s.heap.objs.size=some PySem.W.emptyDict:=Heap.get?_push_size s.heap rfl
 have e2:((s.heap.push PySem.W.emptyDict).push (PySem.W.instObj C s.heap.objs.size)).get? (s.heap.objs.size+1)=some (PySem.W.instObj C s.heap.objs.size):=by
  have:=Heap.get?_push_size (s.heap.push PySem.W.emptyDict) (o:=PySem.W.instObj C s.heap.objs.size) rfl
  rwa[Heap.size_push] at this
 have e3:(s.heap.push PySem.W.emptyDict).Ns s.heap.objs.size (λ_=>none):=⟨PySem.W.emptyDict, #[],_,e1,rfl,(λe he=>absurd he (by simp)),λ_=>rfl⟩
 have I1:=I.laid (a:=s.heap.objs.size) (o:= .own (s.heap.objs.size+1)) (h':=s.heap.push PySem.W.emptyDict) (t':=s.toks) (λb u q=>Heap.get?_push_of_some _ q) (Nat.le_refl _) ⟨_,e1⟩
 refine I1.laid (a:=s.heap.objs.size+1) (o:= .ins C s.heap.objs.size []) (t':=s.toks) (λb u q=>Heap.get?_push_of_some _ q) (Nat.le_of_eq (Heap.size_push _ _)) ?_
 have ne:s.heap.objs.size≠s.heap.objs.size+1:=Nat.ne_of_lt (Nat.lt_succ_self _)
 refine⟨by rw[ze ne,zb],Nat.zero_le _,ne,e2,λ_=>none,(Heap.Ns1.of_empty e3).at λo q=>Heap.get?_push_of_some _ q,λ_=>True.intro,λy hy=>absurd rfl hy⟩
theorem zmV{prog:Program}{w:World}{env:Env}{e:Expr}{f:Str}{pos:Pos}{s:Shared}{Q:Value->Shared->Prop}(hb:attributeBase e f env (eval e env)=eval e env)
 (h:wpAny (model prog w) A (eval e env) (λo s₁=>wpAny (model prog w) A (getAttr o f true) Q E s₁) E s):wpAny (model prog w) A (eval (.Attribute e f pos) env) Q E s:=
 Attribute_any_ h (by rw[arm_eval_Attribute,hb])
end
noncomputable def zpE(K:PySem.W.Frag)(ta:TE)(f:Str):TE:=λσ H Q=>ta σ H λx H1=>∃a C dx fs v,x= .ref a/\H1 a=some (.ins C dx fs)/\Cls K C/\NoAttr K C f/\fs.lookup f=some v/\Q v H1
noncomputable def zpT(K:PySem.W.Frag)(ta tv:TE)(f:Str):TS:=λD σ H=>tv σ H λy H1=>ta σ H1 λx H2=>∃a C dx fs,x= .ref a/\H2 a=some (.ins C dx fs)/\Cls K C/\NoAttr K C f/\fs.length<1000/\
 D.nx σ (upd H2 a (.ins C dx (za2 f y fs)))
def zoI(X:Cx)(op:Operator)(rd:V->V->Hp->VK->Prop):Prop:=
 ∀(pins:List (Addr×Obj)) (s:Shared) (σ:St) (H:Hp) (x y:V) (u v:Value) (Q:VK),Inv X pins σ H s->RelV x u->RelV y v->rd x y H Q->wpAny (model X.prog X.w) X.A (inplaceOp op u v) (EP X pins σ Q) X.xe s
def zje(K:PySem.W.Frag)(ta tv:TE)(rd:V->V->Hp->VK->Prop)(f:Str):TS:=λD σ H=>ta σ H λx H1=>∃a C dx fs v,x= .ref a/\H1 a=some (.ins C dx fs)/\Cls K C/\NoAttr K C f/\fs.lookup f=some v/\
 tv σ H1 λy H2=>rd v y H2 λz H3=>∃dx' fs',H3 a=some (.ins C dx' fs')/\fs'.length<1000/\D.nx σ (upd H3 a (.ins C dx' (za2 f z fs')))
section
variable{X:Cx}{o e value:Expr}{f:Str}{pos pos' tpos:Pos}{ta tv:TE}
theorem zph(he:PE X e ta)(hb:attributeBase e f X.env (eval e X.env)=eval e X.env):PE X (.Attribute e f pos) (zpE X.K ta f):=by
 intro pins s σ H Q I h
 refine zmV hb (thn (he pins s σ H _ I h) λu s1 ⟨x,H1,I1,rx,a,C,dx,fs,v,ex,ea,c,n,l,q⟩=>?_)
 subst ex
 obtain rfl:u=Value.ref a:=rx
 exact ze6 I1 ea c n l λu' s2 I2 ru=>⟨v,H1,I2,ru,q⟩
theorem zov(ha:PE X o ta)(hv:PE X value tv)(hs:swapsWith value (some (.Attribute o f pos')) pos.line X.env=pure false):PS X (.Assign [.Attribute o f pos'] value pos) (zpT X.K ta tv f):=by
 intro pins s σ H D I h
 refine plainObj_wpAny_Assign_Attribute (thn (hv pins s σ H _ I h) λu s1 ⟨y,H1,I1,ry,q⟩=>thn (ha pins s1 σ H1 _ I1 q) λov s2 ⟨x,H2,I2,rx,a,C,dx,fs,ex,ea,c,n,l,q2⟩=>?_) hs
 subst ex
 obtain rfl:ov=Value.ref a:=rx
 exact zfp I2 ea c n l ry λs3 I3=>⟨σ,_,I3,q2⟩
theorem zkg{op:Operator}{rd:V->V->Hp->VK->Prop}(ha:PE X o ta)(hv:PE X value tv)(hop:zoI X op rd):PS X (.AugAssign (.Attribute o f tpos) op value pos) (zje X.K ta tv rd f):=by
 intro pins s σ H D I h
 refine wpAny_AugAssign_AttributeAny (thn (ha pins s σ H _ I h) λov s1 ⟨x,H1,I1,rx,a,C,dx,fs,v,ex,ea,c,n,l,q⟩=>?_)
 subst ex
 obtain rfl:ov=Value.ref a:=rx
 refine ze6 I1 ea c n l λu s2 I2 ru=>thn (hv pins s2 σ H1 _ I2 q) λw3 s3 ⟨y,H2,I3,ry,q3⟩=>thn (hop pins s3 σ H2 v y u w3 _ I3 ru ry q3) λw4 s4 ⟨z,H3,I4,rz,dx',fs',ea',l',q4⟩=>?_
 exact zfp I4 ea' c n l' rz λs5 I5=>⟨σ,_,I5,q4⟩
def zqg:V->V->Hp->VK->Prop:=λx y H Q=>∃i j,x= .int i/\y= .int j/\Q (.int (i+j)) H
theorem zo4:zoI X .Add zqg:=by
 rintro pins s σ H x y u v Q I rx ry ⟨i,j,rfl,rfl,q⟩
 obtain⟨t,rfl⟩:=(show∃t,u=Value.int i t from rx)
 obtain⟨t',rfl⟩:=(show∃t',v=Value.int j t' from ry)
 exact PyProof.Rows.iadd_int ⟨.int (i+j),H,I.tok _,⟨_,rfl⟩,q⟩
theorem methcall_of{pl:Sem Bool}{m:Str}{apos:Pos}{args:List Expr}{pins:List (Addr×Obj)}{s:Shared}{σ:St}{H:Hp}{Q:Value->Shared->Prop}{te:TE}(he:PE X e te)(I:Inv X pins σ H s)
 (h:te σ H λx H1=>∃a C dx fs g,x= .ref a/\H1 a=some (.ins C dx fs)/\Cls X.K C/\Meth X.K C m g/\fs.lookup m=none/\
   ∀s1,Inv X pins σ H1 s1->wpAny (model X.prog X.w) X.A (callWith pos (.ref g) [.ref a] (backTo pos (starEach args X.env)) (backToKw pos (keywordEach [] X.env))) Q X.xe s1)
 (ht:eval (.Call (.Attribute e m apos) args [] pos) X.env=(do
   let ov ←eval e X.env
   standAt apos.atName
   let(f,first) ←holding [ov] (getMethod ov m pl)
   callWith pos f first (backTo pos (starEach args X.env)) (backToKw pos (keywordEach [] X.env)))):
 wpAny (model X.prog X.w) X.A (eval (.Call (.Attribute e m apos) args [] pos) X.env) Q X.xe s:=by
 refine PySem.W.methodCall_KW (pl:=pl) (thn (he pins s σ H _ I h) λu s1 ⟨x,H1,I1,rx,a,C,dx,fs,g,ex,ea,c,k,l,q⟩=>?_) ht
 subst ex
 obtain rfl:u=Value.ref a:=rx
 exact zdx I1 ea c k l (q s1 I1)
end
section
variable{X:Cx}{pins:List (Addr×Obj)}{σ:St}{H:Hp}{s:Shared}{A:Around}{E:Value->Shared->Prop}{Q:Value->Shared->Prop}{c:Value}{b:Bool}
inductive TyOf(K:PySem.W.Frag)(H:Hp):V->Value->Prop where
 |non:TyOf K H .non (.type "NoneType")
 |bl (x:Bool):TyOf K H (.bl x) (.type "bool")
 |int (i:Int):TyOf K H (.int i) (.type "int")
 |str (x:Str):TyOf K H (.str x) (.type "str")
 |flt (x:UInt64):TyOf K H (.flt x) (.type "float")
 |lst {a:Addr} {xs:List V} (e:H a=some (.lst xs)):TyOf K H (.ref a) (.type "list")
 |frz {a:Addr} {o:Obj} {xs:List V} (e:H a=some (.frz o (.lst xs))):TyOf K H (.ref a) (.type "list")
 |tup {a:Addr} {xs:List V} (e:H a=some (.tup xs)):TyOf K H (.ref a) (.type "tuple")
 |dK {a:Addr} {kvs:List (Key×V)} (e:H a=some (.dK kvs)):TyOf K H (.ref a) (.type "dict")
 |dT {a:Addr} {kvs:List (List Key×V)} (e:H a=some (.dT kvs)):TyOf K H (.ref a) (.type "dict")
 |ins {a C dx:Addr} {fs:List (Str×V)} (e:H a=some (.ins C dx fs)) (cl:Cls K C) (ha:PySem.W.findIn K (.ref C) "__class__"=some (some (.builtin "object.__class__")))
   (hn:PySem.W.specialIn K (.builtin "object.__class__") "__get__"=some (some (.builtin "getset_descriptor.__get__"))) (htk:PySem.W.takesIn K (.builtin "object.__class__")=some true)
   (hm:PySem.W.mroIn K C (.type "object")=some true):TyOf K H (.ref a) (.ref C)
end
structure Room(k:Nat)(A:Around):Prop where
 hd:A.handled=none
 dp:A.depth+3*k+5<recursionLimit
 un:A.units+16*k+200<cLine
 gd:A.guards=some []
theorem Room.mono{j k:Nat}{A:Around}(r:Room k A)(h:j<=k):Room j A:=⟨r.hd,by have:=r.dp;omega,by have:=r.un;omega,r.gd⟩
theorem Room.deeper{k:Nat}{A:Around}(r:Room (k+1) A)(env:Env):Room k (A.deeper env):=
 ⟨r.hd,by have:=r.dp;show A.depth+1+3*k+5<_;omega,by have:=r.un;show A.units+3+16*k+200<_;omega,r.gd⟩
theorem zir{A:Around}{C:Addr}{us:List Value}{kw:List (Str×Value)}:(A.under (.builtin "type.__call__" ⟨.ref C::us,kw⟩)).depth=A.depth+1:=by
 first|rfl|simp[Around.under,Code.weight,Code.isCreation,Code.isGuard,Code.isCaller,Code.frames,Code.isFrame,guardIds]
theorem ziA{A:Around}{C:Addr}{us:List Value}{kw:List (Str×Value)}:(A.under (.builtin "type.__call__" ⟨.ref C::us,kw⟩)).units=A.units+1:=by
 first|rfl|simp[Around.under,Code.cUnits,Code.frames,Code.isFrame]
theorem Room.make{k:Nat}{A:Around}(r:Room (k+1) A)(C:Addr)(us:List Value)(kw:List (Str×Value)):Room k (A.under (.builtin "type.__call__" ⟨.ref C::us,kw⟩)):=
 ⟨r.hd,by have:=r.dp;rw[zir];omega,by have:=r.un;rw[ziA];omega,(show(_:Option _)=some [] from r.gd)⟩
theorem Room.depth{k:Nat}{A:Around}(r:Room k A):A.depth<recursionLimit:=by have:=r.dp;omega
theorem Room.units{k:Nat}{A:Around}(r:Room k A):A.units+64<cLine:=by have:=r.un;omega
noncomputable def zk6:TA:=λ_ H Q=>Q [] H
noncomputable def zjI(ta:TE)(tr:TA):TA:=λσ H Q=>ta σ H λx H1=>tr σ H1 λxs H2=>Q (x::xs) H2
section
variable{X:Cx}{e:Expr}{es:List Expr}{te:TE}{t:TA}{pos:Pos}
theorem zlB:PA X [] zk6:=λ_ _ _ _ H Q I h=>Calls.spliced_nil ⟨[],H,I, .nil,h⟩
theorem zjP(ha:PE X e te)(hr:PA X es t)(hs:starEach (e::es) X.env=(false,eval e X.env)::starEach es X.env:=by rfl):PA X (e::es) (zjI te t):=by
 intro pos pins s σ H Q I h
 rw[hs]
 show wpAny _ _ (spliced ((false,eval e X.env)::backTo pos (starEach es X.env))) _ _ s
 refine Calls.spliced_cons (thn (ha pins s σ H _ I h) λu s1 ⟨x,H1,I1,r1,q1⟩=>?_)
 exact thn (hr pos pins s1 σ H1 _ I1 q1) λus s2 ⟨xs,H2,I2,r2,q2⟩=>⟨x::xs,H2,I2, .cons r1 r2,q2⟩
noncomputable def zp3(t:TA):TE:=λσ H Q=>t σ H λxs H1=>xs.length<=sizeLine/\∀p,H1 p=none->Q (.ref p) (upd H1 p (.tup xs))
noncomputable def zo8(t:TA):TE:=λσ H Q=>t σ H λxs H1=>xs.length<=sizeLine/\∀p,H1 p=none->Q (.ref p) (upd H1 p (.lst xs))
theorem zoq{x1}(h:PA X es t):PE X (.Tuple es x1 pos) (zp3 t):=by
 intro pins s σ H Q I hq
 refine wpAny_Tuple_spliced (thn (h pos pins s σ H _ I hq) λus s1 ⟨xs,H1,I1,r,z,q⟩=>⟨by rw[←r.length];exact z,?_⟩)
 have hf:H1 s1.heap.objs.size=none:=I1.hok.fresh (Nat.le_refl _)
 refine⟨.ref s1.heap.objs.size,upd H1 s1.heap.objs.size (.tup xs),I1.laid (t':=s1.toks) (λb u e=>Heap.get?_push_of_some _ e) (Nat.le_refl _) ?_,rfl,q _ hf⟩
 exact⟨z,us,r,⟨_,Heap.get?_push_size _ rfl,rfl,_,rfl⟩,NoDict.new rfl (Heap.get?_push_size _ rfl)⟩
theorem zly(h:PA X es t):PE X (.List es pos) (zo8 t):=by
 intro pins s σ H Q I hq
 refine wpAny_List_spliced (thn (h pos pins s σ H _ I hq) λus s1 ⟨xs,H1,I1,r,z,q⟩=>⟨by rw[←r.length];exact z,?_⟩)
 have hf:H1 s1.heap.objs.size=none:=I1.hok.fresh (Nat.le_refl _)
 refine⟨.ref s1.heap.objs.size,upd H1 s1.heap.objs.size (.lst xs),I1.laid (t':=s1.toks) (λb u e=>Heap.get?_push_of_some _ e) (Nat.le_refl _) ?_,rfl,q _ hf⟩
 exact⟨z,us,0,r,Heap.get?_push_size _ rfl⟩
end
noncomputable abbrev Sp:=List V->Hp->VK->XK->Prop
noncomputable abbrev CXT:=List Env->Hp->Shared->XK->Value->Shared->Prop
structure Env0(P:Program)(w:World)(K:PySem.W.Frag)(mg:Str->Option Value)(base:Heap)(A:Around)(outer:List Env)(s:Shared)(H:Hp):Prop where
 frames:A.frames=some outer
 mod:Mod K mg base
 bs:∀b o,base.get? b=some o->s.heap.get? b=some o/\H b=none
 bsz:base.objs.size<=s.heap.objs.size
 funs:s.heap.FunFrames base outer
 frf:∀b∈frs outer,H b=none
 hok:HOk P w H s.heap
 bare:AllBare s.gens
def CE(outer:List Env)(P:Program)(w:World)(H:Hp)(s:Shared)(Q:VK)(u:Value)(s':Shared):Prop:=
 ∃v H',s'.os=s.os/\AllBare s'.gens/\Un (frs outer) [] H H' s.heap s'.heap/\HOk P w H' s'.heap/\RelV v u/\Q v H'
def CR(CX:CXT)(outer:List Env)(P:Program)(w:World)(H:Hp)(s:Shared)(Q:VK)(E:XK)(r:Result)(s':Shared):Prop:=
 match r with
 | .ok (.ret u)=>CE outer P w H s Q u s'
 | .ok _=>False
 | .error e=>CX outer H s E e s'
structure FnOk(P:Program)(w:World)(K:PySem.W.Frag)(mg:Str->Option Value)(base:Heap)(CX:CXT)(k:Nat)(f:Addr)(fd:FuncData)(ps:List Str)(sp:Sp):Prop where
 len:∀vs H Q E,sp vs H Q E->vs.length=ps.length
 run:∀(A:Around) (outer:List Env) (s:Shared) (H:Hp) (args:Args) (us:List Value) (vs:List V) (Q:VK) (E:XK),Room k A->Env0 P w K mg base A outer s H->BindsTo s fd args (ps.zip us)->Vals vs us->sp vs H Q E->
  codeAny (model P w) A (.call (.ref f) args) (CR CX outer P w H s Q E) s
theorem Env0.make{P:Program}{w:World}{K:PySem.W.Frag}{mg:Str->Option Value}{base:Heap}{A:Around}{outer:List Env}{s:Shared}{H:Hp}(e:Env0 P w K mg base A outer s H)(C:Addr)(us:List Value)(kw:List (Str×Value)):
 Env0 P w K mg base (A.under (.builtin "type.__call__" ⟨.ref C::us,kw⟩)) outer s H:=⟨by first|exact e.frames|(simpa[Around.under,Code.envs,Code.isFrame,pushEnvs] using e.frames),e.mod,e.bs,e.bsz,e.funs,e.frf,e.hok,e.bare⟩
section
variable{X:Cx}{pins:List (Addr×Obj)}{σ:St}{H:Hp}{s s':Shared}
theorem Inv.env0(I:Inv X pins σ H s):Env0 X.prog X.w X.K X.mg X.base X.A X.stack s H:=
 ⟨I.ok.frames,I.ok.mod,I.bs,Nat.le_trans I.ok.bsz I.sz,I.stack,I.stkFree,I.hok,I.bare⟩
theorem Inv.after{Q:VK}{u:Value}(I:Inv X pins σ H s)(h:CE X.stack X.prog X.w H s Q u s'):EP X pins σ Q u s':=by
 obtain⟨v,H',os,bare,un,hok,r,q⟩:=h
 obtain⟨hh,g,d,t,os'⟩:=s'
 obtain rfl:os'=s.os:=os
 exact⟨v,H',I.call (h':=hh) (g':=g) (d':=d) (t':=t) (ch:=[]) un hok bare (λb z=>absurd z (by simp)),r,q⟩
end
noncomputable def znU(sp:Sp)(dvs:List V)(E:XK)(t:TA):TE:=λσ H Q=>t σ H λvs H1=>sp (vs ++dvs) H1 Q E
noncomputable def zjH(C:Addr)(m:Str)(sp:Sp)(dvs:List V)(E:XK)(ta:TE)(t:TA):TE:=λσ H Q=>ta σ H λx H1=>∃a dx fs,x= .ref a/\H1 a=some (.ins C dx fs)/\fs.lookup m=none/\
 t σ H1 λvs H2=>sp (x::(vs ++dvs)) H2 Q E
noncomputable def zok(C:Addr)(sp:Sp)(dvs:List V)(E:XK)(t:TA):TE:=λσ H Q=>t σ H λvs H1=>∀x dx,H1 x=none->H1 dx=none->dx≠x->
 sp (.ref x::(vs ++dvs)) (upd (upd H1 dx (.own x)) x (.ins C dx [])) (λv H2=>v= .non/\Q (.ref x) H2) E
def Binds(K:PySem.W.Frag)(fd:FuncData)(ps:List Str)(ds:List Value):Prop:=
 ∀(s:Shared) (us:List Value),K.In s.heap->(us ++ds).length=ps.length->BindsTo s fd ⟨us,[]⟩ (ps.zip (us ++ds))
theorem Binds.all{K:PySem.W.Frag}{fd:FuncData}{ps:List Str}(h:∀us:List Value,us.length=ps.length->bindArgs fd ⟨us,[]⟩=pure (ps.zip us)):Binds K fd ps []:=λs us _ hl=>by
 rw[List.append_nil] at hl⊢
 exact .of_eq (h us hl)
def zb4(CX:CXT)(X:Cx)(E:XK):Prop:=∀(pins:List (Addr×Obj)) (σ:St) (H:Hp) (s:Shared) (e:Value) (s':Shared),Inv X pins σ H s->CX X.stack H s E e s'->X.xe e s'
section
variable{X:Cx}{CX:CXT}{k:Nat}{f C:Addr}{fd:FuncData}{ps:List Str}{sp:Sp}{dvs:List V}{ds:List Value}{E:XK}{x m:Str}{p pos apos:Pos}{e o:Expr}{es:List Expr}{ta:TE}{t:TA}
theorem zi5{pins:List (Addr×Obj)}{σ:St}{H:Hp}{s:Shared}{Q:VK}{us:List Value}{vs:List V}(F:FnOk X.prog X.w X.K X.mg X.base CX k f fd ps sp)(hr:Room k X.A)(hb:Binds X.K fd ps ds)(hd:Vals dvs ds)(hx:zb4 CX X E)
 (I:Inv X pins σ H s) (r:Vals vs us) (h:sp (vs ++dvs) H Q E):wpAny (model X.prog X.w) X.A (call (.ref f) us) (EP X pins σ Q) X.xe s:=by
 have r2:Vals (vs ++dvs) (us ++ds):=r.append hd
 have hl:(us ++ds).length=ps.length:=by rw[←r2.length];exact F.len _ _ _ _ h
 refine wpAny_call (codeAny_mono (F.run X.A X.stack s H ⟨us,[]⟩ (us ++ds) (vs ++dvs) Q E hr I.env0 (hb s us I.kIn hl) r2 h) λr s' hq=>?_)
 cases r with
 |error e=>exact hx pins σ H s e s' I hq
 |ok fl=>
  cases fl with
  |ret u=>exact I.after hq
  |next=>exact False.elim hq
  |brk=>exact False.elim hq
  |cont=>exact False.elim hq
theorem zmJ(F:FnOk X.prog X.w X.K X.mg X.base CX k f fd ps sp)(hr:Room k X.A)(hg:Gl X x)(hm:X.mg x=some (.ref f))(hk:PySem.W.keepIn X.K (.ref f)=true)(hb:Binds X.K fd ps ds)(hd:Vals dvs ds)(hx:zb4 CX X E)
 (ha:PA X (e::es) t) (hdb:(x==("__debug__":Str))=false:=by decide) (he:starEach (e::es) X.env=(false,eval e X.env)::starEach es X.env:=by rfl) (hpl:(backTo pos (starEach es X.env)).any (·.1)=false:=by rfl):
 PE X (.Call (.Name x p) (e::es) [] pos) (znU sp dvs E t):=by
 intro pins s σ H Q I h
 refine wpAny_Call_Name_kw (zgG I hg hm ?_ hdb)
 refine PySem.W.callWith_K (h₀:=X.base) I.ok.mod.kin hk (thn (ha pos pins s σ H _ I h) λus s1 ⟨vs,H1,I1,r,q⟩=>⟨I1.kIn,?_⟩) he hpl
 exact zi5 F hr hb hd hx I1 r q
theorem zm6{pl:Sem Bool}(he:PE X o ta)(c:Cls X.K C)(hm:Meth X.K C m f)(F:FnOk X.prog X.w X.K X.mg X.base CX k f fd ps sp)(hr:Room k X.A)(hb:Binds X.K fd ps ds)(hd:Vals dvs ds)(hx:zb4 CX X E)(ha:PA X (e::es) t)
 (hst:starEach (e::es) X.env=(false,eval e X.env)::starEach es X.env:=by rfl) (hpl:(backTo pos (starEach es X.env)).any (·.1)=false:=by rfl)
 (ht:eval (.Call (.Attribute o m apos) (e::es) [] pos) X.env=(do
   let ov ←eval o X.env
   standAt apos.atName
   let(f,first) ←holding [ov] (getMethod ov m pl)
   callWith pos f first (backTo pos (starEach (e::es) X.env)) (backToKw pos (keywordEach [] X.env))):=by rfl):
 PE X (.Call (.Attribute o m apos) (e::es) [] pos) (zjH C m sp dvs E ta t):=by
 intro pins s σ H Q I h
 refine PySem.W.methodCall_KW (pl:=pl) (thn (he pins s σ H _ I h) λu s1 ⟨x,H1,I1,rx,a,dx,fs,ex,ea,l,q⟩=>?_) ht
 subst ex
 obtain rfl:u=Value.ref a:=rx
 refine zdx I1 ea c hm l ?_
 refine PySem.W.callWith_K (first:=[.ref a]) (h₀:=X.base) I.ok.mod.kin hm.kp (thn (ha pos pins s1 σ H1 _ I1 q) λus s2 ⟨vs,H2,I2,r,q2⟩=>⟨I2.kIn,?_⟩) hst hpl
 exact zi5 (us:= .ref a::us) (vs:= .ref a::vs) F hr hb hd hx I2 (.cons rfl r) q2
theorem zl1{pl:Sem Bool}(he:PE X o ta)(c:Cls X.K C)(hm:Meth X.K C m f)(F:FnOk X.prog X.w X.K X.mg X.base CX k f fd ps sp)(hr:Room k X.A)(hb:Binds X.K fd ps ds)(hd:Vals dvs ds)(hx:zb4 CX X E)
 (ht:eval (.Call (.Attribute o m apos) [] [] pos) X.env=(do
   let ov ←eval o X.env
   standAt apos.atName
   let(f,first) ←holding [ov] (getMethod ov m pl)
   callWith pos f first (backTo pos (starEach [] X.env)) (backToKw pos (keywordEach [] X.env))):=by rfl):
 PE X (.Call (.Attribute o m apos) [] [] pos) (zjH C m sp dvs E ta zk6):=by
 intro pins s σ H Q I h
 refine PySem.W.methodCall_KW (pl:=pl) (thn (he pins s σ H _ I h) λu s1 ⟨x,H1,I1,rx,a,dx,fs,ex,ea,l,q⟩=>?_) ht
 subst ex
 obtain rfl:u=Value.ref a:=rx
 refine zdx I1 ea c hm l ?_
 exact PySem.W.callWith_K0 (first:=[.ref a]) I1.kIn hm.kp (zi5 (us:=[.ref a]) (vs:=[.ref a]) F hr hb hd hx I1 (.cons rfl .nil) q)
structure Mk(K:PySem.W.Frag)(C f:Addr):Prop where
 makes:PySem.W.makesIn K C=true
 init:PySem.W.findIn K (.ref C) "__init__"=some (some (.ref f))
 fn:PySem.W.isFn K (.ref f)=true
 kp:PySem.W.keepIn K (.ref C)=true
theorem zl6{pins:List (Addr×Obj)}{σ:St}{H:Hp}{s:Shared}{Q:VK}{us:List Value}{vs:List V}(M:Mk X.K C f)(F:FnOk X.prog X.w X.K X.mg X.base CX k f fd ps sp)(hr:Room (k+1) X.A)(hb:Binds X.K fd ps ds)(hd:Vals dvs ds)
 (hx:zb4 CX X E) (I:Inv X pins σ H s) (r:Vals vs us)
 (h:∀x dx,H x=none->H dx=none->dx≠x->sp (.ref x::(vs ++dvs)) (upd (upd H dx (.own x)) x (.ins C dx [])) (λv H2=>v= .non/\Q (.ref x) H2) E):
 wpAny (model X.prog X.w) X.A (call (.ref C) us) (EP X pins σ Q) X.xe s:=by
 have hq:=h (s.heap.objs.size+1) s.heap.objs.size (I.hok.fresh (Nat.le_succ _)) (I.hok.fresh (Nat.le_refl _)) (Nat.ne_of_lt (Nat.lt_succ_self _))
 have I2:=Inv.made (C:=C) I
 have r2:Vals (V.ref (s.heap.objs.size+1)::(vs ++dvs)) (Value.ref (s.heap.objs.size+1)::(us ++ds)):= .cons rfl (r.append hd)
 have hl:(Value.ref (s.heap.objs.size+1)::us ++ds).length=ps.length:=by
  have e:=r2.length
  rw[F.len _ _ _ _ hq] at e
  exact e.symm
 refine wpAny_call (zkU (f:=f) I.kIn M.makes M.init (beq_iff_eq.mp M.fn) (codeAny_mono (F.run _ X.stack _ _ ⟨Value.ref (s.heap.objs.size+1)::us,[]⟩ (Value.ref (s.heap.objs.size+1)::(us ++ds)) _ _ E (hr.make C us [])
  (I2.env0.make C us []) (hb _ (Value.ref (s.heap.objs.size+1)::us) I2.kIn hl) r2 hq) λr s' hq'=>?_))
 cases r with
 |error e=>exact hx pins σ _ _ e s' I2 hq'
 |ok fl=>
  cases fl with
  |ret u=>
   obtain⟨v,H',I3,rv,ev,q3⟩:=I2.after hq'
   subst ev
   exact⟨rv,⟨V.ref (s.heap.objs.size+1),H',I3,rfl,q3⟩⟩
  |next=>exact False.elim hq'
  |brk=>exact False.elim hq'
  |cont=>exact False.elim hq'
theorem zm8(M:Mk X.K C f)(F:FnOk X.prog X.w X.K X.mg X.base CX k f fd ps sp)(hr:Room (k+1) X.A)(hg:Gl X x)(hm:X.mg x=some (.ref C))(hb:Binds X.K fd ps ds)(hd:Vals dvs ds)(hx:zb4 CX X E)
 (ha:PA X (e::es) t) (hdb:(x==("__debug__":Str))=false:=by decide) (he:starEach (e::es) X.env=(false,eval e X.env)::starEach es X.env:=by rfl) (hpl:(backTo pos (starEach es X.env)).any (·.1)=false:=by rfl):
 PE X (.Call (.Name x p) (e::es) [] pos) (zok C sp dvs E t):=by
 intro pins s σ H Q I h
 refine wpAny_Call_Name_kw (zgG I hg hm ?_ hdb)
 refine PySem.W.callWith_K (h₀:=X.base) I.ok.mod.kin M.kp (thn (ha pos pins s σ H _ I h) λus s1 ⟨vs,H1,I1,r,q⟩=>⟨I1.kIn,?_⟩) he hpl
 exact zl6 M F hr hb hd hx I1 r q
end
section
variable{X:Cx}{CX:CXT}{k:Nat}{f C:Addr}{fd:FuncData}{ps ks:List Str}{sp:Sp}{E:XK}{x m:Str}{p pos apos kpos:Pos}{e o:Expr}{es:List Expr}{kws:List Keyword}{te ta:TE}{t tk:TA}{nm:Option Str}
structure KBinds(K:PySem.W.Frag)(fd:FuncData)(ps ks:List Str)(g:List Value->List Value->List Value)(gV:List V->List V->List V):Prop where
 to:∀(s:Shared) (us ws:List Value),K.In s.heap->(g us ws).length=ps.length->BindsTo s fd ⟨us,ks.zip ws⟩ (ps.zip (g us ws))
 rel:∀{vs:List V} {us:List Value} {zs:List V} {ws:List Value},Vals vs us->Vals zs ws->Vals (gV vs zs) (g us ws)
variable{g:List Value->List Value->List Value}{gV:List V->List V->List V}
end
structure FnScope(N P:List Str)(sc:Scope):Prop where
 kind:sc.kind= .function
 co:sc.isCoroutine=false
 gen:sc.isGenerator=false
 nd:N.Nodup
 pre:N.take P.length=P
 par:∀x∈P,sc.names.lookup x=some .local\/sc.names.lookup x=some .cell
 nofree:∀y∈sc.names,y.2≠ .free
theorem zgs{kindOf:Str->Option NameKind}{x:Str}:∀{binds:List (Str×Value)} {m:Str->Option Value},(∀v,(x,v)∉binds)->bindL kindOf binds m x=m x
 |[],_,_=>rfl
 |(n,v)::r,m,h=>by
  unfold bindL
  rw[zgs λw hw=>h w (List.mem_cons_of_mem _ hw)]
  split
  ·have:x≠n:=by rintro rfl;exact h v List.mem_cons_self
   simp[this]
  ·rfl
theorem zf2{kindOf:Str->Option NameKind}{x:Str}:∀{binds:List (Str×Value)} {m:Str->Option Value},(∀v,(x,v)∉binds)->bindC kindOf binds m x=m x
 |[],_,_=>rfl
 |(n,v)::r,m,h=>by
  unfold bindC
  rw[zf2 λw hw=>h w (List.mem_cons_of_mem _ hw)]
  split
  ·rfl
  ·have:x≠n:=by rintro rfl;exact h v List.mem_cons_self
   simp[this]
theorem zgm{kindOf:Str->Option NameKind}{x:Str}{v:Value}:∀{P:List Str} {vs:List Value} {i:Nat} {m:Str->Option Value},P.Nodup->P[i]?=some x->vs[i]?=some v->kindOf x=some .local->
 bindL kindOf (P.zip vs) m x=some v
 |[],_,_,_,_,h,_,_=>by simp at h
 |_::_,[],_,_,_,_,h,_=>by simp at h
 |p::P,w::vs,0,m,nd,h1,h2,hk=>by
  simp at h1 h2;subst h1;subst h2
  show bindL kindOf ((p,w)::P.zip vs) m p=_
  unfold bindL
  rw[zgs λv hv=>(List.nodup_cons.mp nd).1 (List.of_mem_zip hv).1,if_pos hk]
  simp
 |p::P,w::vs,i+1,m,nd,h1,h2,hk=>by
  show bindL kindOf ((p,w)::P.zip vs) m x=_
  unfold bindL
  exact zgm (i:=i) (List.nodup_cons.mp nd).2 (by simpa using h1) (by simpa using h2) hk
theorem zf9{kindOf:Str->Option NameKind}{x:Str}{v:Value}:∀{P:List Str} {vs:List Value} {i:Nat} {m:Str->Option Value},P.Nodup->P[i]?=some x->vs[i]?=some v->kindOf x≠some .local->
 bindC kindOf (P.zip vs) m x=some v
 |[],_,_,_,_,h,_,_=>by simp at h
 |_::_,[],_,_,_,_,h,_=>by simp at h
 |p::P,w::vs,0,m,nd,h1,h2,hk=>by
  simp at h1 h2;subst h1;subst h2
  show bindC kindOf ((p,w)::P.zip vs) m p=_
  unfold bindC
  rw[zf2 λv hv=>(List.nodup_cons.mp nd).1 (List.of_mem_zip hv).1,if_neg hk]
  simp
 |p::P,w::vs,i+1,m,nd,h1,h2,hk=>by
  show bindC kindOf ((p,w)::P.zip vs) m x=_
  unfold bindC
  exact zf9 (i:=i) (List.nodup_cons.mp nd).2 (by simpa using h1) (by simpa using h2) hk
noncomputable def zds(N:List Str)(vs:List V):St:=vs.map some ++List.replicate (N.length -vs.length) none
noncomputable def zhG(CX:CXT)(P:Program)(w:World)(K:PySem.W.Frag)(mg:Str->Option Value)(base:Heap)(N:List Str)(qual:Str)(scope:Scope)(f:Addr)(cd:Value)(A:Around)(outer:List Env)(s:Shared)(H:Hp)(E:XK):Cx where
 prog:=P
 w:=w
 K:=K
 mg:=mg
 base:=base
 A:=A.deeper (envOfC qual scope s.heap.objs.size f cd)
 N:=N
 s₀:=s
 H₀:=H
 env:=envOfC qual scope s.heap.objs.size f cd
 outer:=outer
 stack:=envOfC qual scope s.heap.objs.size f cd::outer
 ex:=[]
 calm:=true
 fn:=λ_=>true
 pn:=[]
 xe:=λe s'=>wpAny (model P w) (A.deeper (envOfC qual scope s.heap.objs.size f cd)) (leaving (envOfC qual scope s.heap.objs.size f cd) e) (λ_ s''=>CX outer H s E e s'') (λe' s''=>CX outer H s E e' s'') s'
theorem zhC{sc:Scope}{n:Nat}{x:Str}(h:sc.names.lookup x=some .cell):∃c,(cellsFrom n sc.names []).lookup x=some c:=by
 have q:=PySem.W.cellsFrom_some sc.names n [] (.inl h)
 exact Option.isSome_iff_exists.mp q
theorem zkh{CX:CXT}{P:Program}{w:World}{K:PySem.W.Frag}{mg:Str->Option Value}{base:Heap}{N ps:List Str}{qual:Str}{scope:Scope}{f:Addr}{cd:Value}{A:Around}{outer:List Env}{s s1:Shared}{H:Hp}{E:XK}{us:List Value}{vs:List V}
 (S:FnScope N ps scope) (hd:A.handled=none) (e0:Env0 P w K mg base A outer s H) (hl:vs.length=ps.length) (r:Vals vs us)
 (x:InCallC s s.heap.objs.size (bindL (envOfC qual scope s.heap.objs.size f cd).kindOf (ps.zip us) λ_=>none) (cellsFrom (s.heap.objs.size+1) scope.names []) (bindC (envOfC qual scope s.heap.objs.size f cd).kindOf (ps.zip us) λ_=>none) s1):
 Inv (zhG CX P w K mg base N qual scope f cd A outer s H E) [] (zds N vs) H s1:=by
 have hpl:ps.length<=N.length:=by have:=congrArg List.length S.pre;rw[List.length_take] at this;omega
 obtain⟨h1,tk,rfl,hk⟩:=x.done
 have noA:∀b:Addr,b∉(zhG CX P w K mg base N qual scope f cd A outer s H E).ex:=λb z=>absurd (show b∈([]:List Addr)from z) (by simp)
 refine⟨⟨e0.mod,S.kind,rfl,rfl,Nat.le_refl _,λy z c h1 h2=>?_,λy hy=>?_,λy c _ h=>?_,λ_=>hd,Around.frames_deeper e0.frames, .inr ⟨rfl,rfl⟩,λb z=>absurd z (noA b),e0.bs,e0.bsz,λb _ _=>noA b,λb z=>absurd z (noA b),e0.funs,e0.frf⟩,
  rfl,e0.bare,Un.kept hk,⟨_,x.toInCall.ns,λi y v h1 h2 h3=>?_⟩,λy c h=>⟨_,x.cell y c h⟩,e0.hok.fresh (Nat.le_refl _),λy c h=>?_,λp hp=>absurd (show p∈([]:List (Addr×Obj))from hp) (by simp),e0.hok.kept hk,?_⟩
 ·exact name_of_addr x.apart (PySem.mem_of_lookup h1) (PySem.mem_of_lookup h2)
 ·have hy:scope.names.lookup y=some .cell\/scope.names.lookup y=some .free:=hy
  rcases hy with hy|hy
  ·exact zhC hy
  ·exact absurd rfl (S.nofree _ (PySem.mem_of_lookup hy))
 ·exact Nat.le_of_lt (x.above y c (PySem.mem_of_lookup h))
 ·have hi:i<vs.length:=by
   unfold zds at h2
   by_cases hi:i<vs.length
   ·exact hi
   ·rw[List.getElem?_append_right (by simpa using hi)] at h2
    rw[List.getElem?_replicate] at h2
    split at h2<;>cases h2
  have ha:vs[i]?=some v:=by
   unfold zds at h2
   rw[List.getElem?_append_left (by simpa using hi),List.getElem?_map] at h2
   cases e:vs[i]? with
   |none=>rw[e] at h2;cases h2
   |some a=>rw[e] at h2;cases h2;rfl
  obtain⟨u,hu,rv⟩:=r.get ha
  have hp:ps[i]?=some y:=by
   rw[←S.pre,List.getElem?_take_of_lt (by omega)];exact h1
  have ndP:ps.Nodup:=by rw[←S.pre];exact S.nd.sublist (List.take_sublist _ _)
  refine⟨u,rv,?_⟩
  rcases S.par y (List.mem_of_getElem? hp)with k|k
  ·exact .inl ⟨k,zgm ndP hp hu k⟩
  ·obtain ⟨c,e⟩:=zhC (n:=s.heap.objs.size+1) k
   refine .inr ⟨.inl k,c,e,?_⟩
   have q:=x.cell y c e
   rw[zf9 ndP hp hu (by show scope.names.lookup y≠_;rw[k];decide)] at q
   exact q
 ·exact e0.hok.fresh (Nat.le_of_lt (x.above y c (PySem.mem_of_lookup h)))
 ·unfold zds
  show _=N.length
  rw[List.length_append,List.length_map,List.length_replicate]
  omega
theorem zoe{CX:CXT}{P:Program}{w:World}{K:PySem.W.Frag}{mg:Str->Option Value}{base:Heap}{k:Nat}{f:Addr}{name qual:Str}{params:Arguments}{body:List Stmt}{scope:Scope}{dV kV doc pm cdv ct oc:Value}{an od:Option Addr}
 {osl:Array (Option Value)} {N ps:List Str} {sp:Sp} (lk:K.lookup f=some ⟨oc,od, .func (PySem.W.fnOf name qual params body scope dV kV doc pm an cdv ct),osl⟩) (hcd:PySem.W.codeIn K cdv qual=true) (S:FnScope N ps scope)
 (len:∀vs H Q E,sp vs H Q E->vs.length=ps.length)
 (hbody:∀(A:Around) (outer:List Env) (s:Shared) (H:Hp) (vs:List V) (Q:VK) (E:XK),Room k (A.deeper (envOfC qual scope s.heap.objs.size f cdv))->sp vs H Q E->
   ∃t,PSs (zhG CX P w K mg base N qual scope f cdv A outer s H E) body t/\t {nx:=λ_ H'=>Q .non H',rt:=Q} (zds N vs) H):
 FnOk P w K mg base CX (k+1) f (PySem.W.fnOf name qual params body scope dV kV doc pm an cdv ct) ps sp:=by
 refine⟨len,λA outer s H args us vs Q E hr e0 hb r hsp=>?_⟩
 have hl:=len _ _ _ _ hsp
 have KX:K.In s.heap:=e0.mod.kin.keeps λb o e=>(e0.bs b o e).1
 have lim:s.heap.NoLimit:=e0.mod.nolimit.keeps λb o e=>(e0.bs b o e).1
 have hkind:∀y∈ps.zip us,scope.names.lookup y.1=some .local\/(scope.names.lookup y.1=some .cell/\((cellsFrom (s.heap.objs.size+1) scope.names []).lookup y.1).isSome=true):=λ⟨n,v⟩ hy=>by
  rcases S.par n (List.of_mem_zip hy).1 with q|q
  ·exact .inl q
  ·exact .inr ⟨q,PySem.W.cellsFrom_some _ _ _ (.inl q)⟩
 refine codeAny_call_function hr.depth (KX _ _ lk) rfl S.co S.gen rfl (PySem.W.codeRec_of KX hcd) (hb _ _ _ _ ?_)
 refine wpAny_newFunctionEnv_cells S.kind hkind λenv he s1 x=>?_
 subst he
 refine⟨lim.keeps x.toInCall.keep,codeAny_func ?_⟩
 obtain⟨t,ht,hq⟩:=hbody A outer s H vs Q E (hr.deeper _) hsp
 have I:Inv (zhG CX P w K mg base N qual scope f cdv A outer s H E) [] (zds N vs) H s1:=zkh S hr.hd e0 hl r x
 refine wpAny_mono (ht [] s1 (zds N vs) H _ I hq) (λfl s' hs=>?_) λe s' hs=>hs
 have fin:∀{σ':St} {H':Hp} {v:V} {u:Value},Inv (zhG CX P w K mg base N qual scope f cdv A outer s H E) [] σ' H' s'->RelV v u->Q v H'->CE outer P w H s Q u s':=
  λ{σ' H' v u} J rv q=>⟨v,H',J.os,J.bare,J.base,J.hok,rv,q⟩
 cases fl with
 |ret u=>
  obtain⟨v,σ',H',J,rv,q⟩:=hs
  exact fin J rv q
 |next=>
  obtain⟨σ',H',J,q⟩:=hs
  exact fin (v:=V.non) (u:=Value.none) J rfl q
 |brk=>
  obtain⟨_,_,_,q⟩:=hs
  exact False.elim q
 |cont=>
  obtain⟨_,_,_,q⟩:=hs
  exact False.elim q
section
variable{X:Cx}{x:Str}{p pos:Pos}{e:Expr}{es:List Expr}{t:TA}{id T:String}{r:List V->Hp->VK->Prop}
def tCB(r:List V->Hp->VK->Prop)(t:TA):TE:=λσ H Q=>t σ H λvs H1=>r vs H1 Q
theorem zmk(hc:CallR X (.builtin id) r)(hg:Gl X x)(hm:X.mg x=none)(hv:bootBuiltins x=some (.builtin id))(ha:PA X (e::es) t)(hn:x≠"__name__":=by decide)(hdb:(x==("__debug__":Str))=false:=by decide)
 (he:starEach (e::es) X.env=(false,eval e X.env)::starEach es X.env:=by rfl) (hpl:(backTo pos (starEach es X.env)).any (·.1)=false:=by rfl):PE X (.Call (.Name x p) (e::es) [] pos) (tCB r t):=by
 intro pins s σ H Q I h
 refine wpAny_Call_Name_kw (zgP I hg hm hv ?_ hn hdb)
 exact PyProof.Rows.callWith_builtin1 (thn (ha pos pins s σ H _ I h) λus s1 ⟨vs,H1,I1,r1,q1⟩=>hc pins s1 σ H1 vs us Q I1 r1 q1) he hpl
theorem zkc(hc:CallR X (.type T) r)(hg:Gl X x)(hm:X.mg x=none)(hv:bootBuiltins x=some (.type T))(ha:PA X (e::es) t)(hn:x≠"__name__":=by decide)(hdb:(x==("__debug__":Str))=false:=by decide)
 (he:starEach (e::es) X.env=(false,eval e X.env)::starEach es X.env:=by rfl) (hpl:(backTo pos (starEach es X.env)).any (·.1)=false:=by rfl):PE X (.Call (.Name x p) (e::es) [] pos) (tCB r t):=by
 intro pins s σ H Q I h
 refine wpAny_Call_Name_kw (zgP I hg hm hv ?_ hn hdb)
 exact PyProof.Rows.callWith_type1 (thn (ha pos pins s σ H _ I h) λus s1 ⟨vs,H1,I1,r1,q1⟩=>hc pins s1 σ H1 vs us Q I1 r1 q1) he hpl
end
end L2
namespace HT
open PySem PyProof.Rows
section
open PySem.SeqAt
open PySem.AutoSeq1 (wpAny_loadPart')
open PySem.MeetsSeq PySem.MeetsSeq2 PySem.MeetsSeq3
end
section
variable{prog:Program}{w:World}{A:Around}{E:Value->Shared->Prop}{s:Shared}
theorem cat_tup{t b:Addr}{vs ws:List Value}{Q:Value->Shared->Prop}(ht:IsTup s.heap t vs.toArray)(hb:IsTup s.heap b ws.toArray)(hv:vs≠ [])
 (h1:ws=[]->Q (.ref t) s) (h2:ws≠ []->Q (.ref s.heap.objs.size) {s with heap:=s.heap.push {cls:= .type "tuple",data:= .seq (vs ++ws).toArray}})
 (hsz:vs.length+ws.length<=sizeLine):wpAny (model prog w) A (binaryOp .Add (.ref t) (.ref b)) Q E s:=by
 obtain⟨⟨cls,dd,data,sl⟩,ho,hc,n,hd⟩:=id ht
 obtain⟨⟨cls2,dd2,data2,sl2⟩,ho2,hc2,n2,hd2⟩:=id hb
 simp only at hc hd hc2 hd2
 subst hc hd hc2 hd2
 have e:vs.toArray ++ws.toArray=(vs ++ws).toArray:=by simp
 by_cases hw:ws=[]
 ·exact concat_meets ⟨_,ho,rfl⟩ ⟨_,ho2,rfl⟩ noFill_tuple_add seq_tuple_add PySem.F.slot_tuple_add PySem.F.entry_tuple_add (PySem.F.args_tuple_add_2 _ _)
   (tuple_addW1 t b vs.toArray ws.toArray n n2 dd dd2 sl sl2 (by simpa using hv) (by simp[hw])) ⟨ho,ho2,h1 hw⟩
 ·refine concat_meets ⟨_,ho,rfl⟩ ⟨_,ho2,rfl⟩ noFill_tuple_add seq_tuple_add PySem.F.slot_tuple_add PySem.F.entry_tuple_add (PySem.F.args_tuple_add_2 _ _)
   (tuple_addW2 t b vs.toArray ws.toArray n n2 dd dd2 sl sl2 (by simpa using hv) (by simpa using hw) (by rw[List.size_toArray,List.size_toArray];exact hsz)) ⟨ho,ho2,?_⟩
  rw[e]
  exact h2 hw
noncomputable def sIx(n d:Nat):Option Int->Nat
 |none=>d
 |some v=>if v<0 then(v+(n:Int)).toNat else min v.toNat n
end
end HT
namespace L2
open PySem PySem.Spec PyProof.Rows
noncomputable abbrev TO:=St->Hp->(Option Int->Hp->Prop)->Prop
def PO(X:Cx)(e:Option Expr)(t:TO):Prop:=
 ∀(pins:List (Addr×Obj)) (s:Shared) (σ:St) (H:Hp) (Q:Option Int->Hp->Prop),Inv X pins σ H s->t σ H Q->
  wpAny (model X.prog X.w) X.A (evalPart e X.env) (λu s'=>∃o H',Inv X pins σ H' s'/\IsPart u o/\Q o H') X.xe s
noncomputable def zjy:TO:=λ_ H Q=>Q none H
noncomputable def zoi(t:TE):TO:=λσ H Q=>t σ H λx H1=>∃i,x= .int i/\Q (some i) H1
section
variable{X:Cx}{e:Expr}{te:TE}{lo hi:Option Expr}{tl th:TO}{pos p2:Pos}
theorem zne:PO X none zjy:=by
 intro pins s σ H Q I h
 rw[evalPart_none]
 exact wpAny_pure ⟨none,H,I, .none,h⟩
theorem znJ(h:PE X e te):PO X (some e) (zoi te):=by
 intro pins s σ H Q I hw
 rw[evalPart_some]
 refine thn (h pins s σ H _ I hw) λu s1 ⟨x,H1,I1,r1,q1⟩=>?_
 obtain⟨i,rfl,q⟩:=q1
 obtain⟨t,rfl⟩:=r1
 exact⟨some i,H1,I1, .int i t,q⟩
def SlR(X:Cx)(r:V->Option Int->Option Int->Hp->VK->Prop):Prop:=
 ∀(pins:List (Addr×Obj)) (s:Shared) (σ:St) (H:Hp) (x:V) (v vl vu:Value) (lo hi:Option Int) (sl:Addr) (Q:VK),Inv X pins σ H s->RelV x v->s.heap.IsSliceOf sl vl vu .none->IsPart vl lo->IsPart vu hi->r x lo hi H Q->
  ∃T id,typeLookup (.type T) "__getitem__"=pure (some (.builtin id))/\s.TypeIs v T/\wpAny (model X.prog X.w) X.A (getItem v (.ref sl)) (EP X pins σ Q) X.xe s
def tSl(r:V->Option Int->Option Int->Hp->VK->Prop)(te:TE)(tl th:TO):TE:=λσ H Q=>te σ H λx H1=>tl σ H1 λl H2=>th σ H2 λu H3=>r x l u H3 Q
theorem zlW{r:V->Option Int->Option Int->Hp->VK->Prop}(hr:SlR X r)(he:PE X e te)(hl:PO X lo tl)(hu:PO X hi th):PE X (.Subscript e (.Slice lo hi none p2) pos) (tSl r te tl th):=by
 intro pins s σ H Q I h
 refine Subscript_ (thn (he pins s σ H _ I h) λv s1 ⟨x,H1,I1,r1,q1⟩=>?_)
 refine wpAny_Slice (thn (hl pins s1 σ H1 _ I1 q1) λvl s2 ⟨l,H2,I2,pl,q2⟩=>thn (hu pins s2 σ H2 _ I2 q2) λvu s3 ⟨u,H3,I3,pu,q3⟩=>?_)
 rw[evalPart_none]
 refine wpAny_pure ?_
 have I4:Inv X pins σ H3 {s3 with heap:=s3.heap.push {cls:= .type "slice",data:= .fields #[vl,vu, .none]}}:=I3.kept (t':=s3.toks) λb ob q=>Heap.get?_push_of_some _ q
 obtain⟨T,id,hT,ht,hg⟩:=hr pins {s3 with heap:=s3.heap.push {cls:= .type "slice",data:= .fields #[vl,vu, .none]}} σ H3 x v vl vu l u s3.heap.objs.size Q I4 r1 (Heap.IsSliceOf.new ..) pl pu q3
 show wpAny (model X.prog X.w) X.A (subscriptTail e (.Slice lo hi none p2) v (.ref s3.heap.objs.size)) (EP X pins σ Q) X.xe {s3 with heap:=s3.heap.push {cls:= .type "slice",data:= .fields #[vl,vu, .none]}}
 exact tail_any (ops:=[.ref s3.heap.objs.size,v]) ht hT hg (by with_unfolding_all rfl)
noncomputable def zdn(xs:List V)(lo hi:Option Int):List V:=(xs.drop (HT.sIx xs.length 0 lo)).take (HT.sIx xs.length xs.length hi -HT.sIx xs.length 0 lo)
theorem zik(xs:List V)(lo hi:Option Int):(zdn xs lo hi).length<=xs.length:=by
 unfold zdn
 rw[List.length_take,List.length_drop]
 omega
noncomputable def zpp(K:PySem.W.Frag):R2:=λx y H Q=>∃a b xs ys,x= .ref a/\y= .ref b/\SqT K H a xs/\SqT K H b ys/\xs≠ []/\xs.length+ys.length<=sizeLine/\
 (ys=[]->Q (.ref a) H)/\(ys≠ []->∀p,H p=none->Q (.ref p) (upd H p (.tup (xs ++ys))))
theorem Vals.nil_iff{xs:List V}{us:List Value}(r:Vals xs us):us=[]↔xs=[]:=by
 cases r with
 |nil=>simp
 |cons _ _=>simp
theorem znB:OpR X (binaryOp .Add) (zpp X.K):=by
 intro pins s σ H x y v u Q I rx ry h
 obtain⟨a,b,xs,ys,rfl,rfl,ha,hb,hx,hz,q1,q2⟩:=h
 cases rx
 cases ry
 obtain⟨its,r1,p1,_⟩:=I.tuple ha
 obtain⟨its2,r2,p2,_⟩:=I.tuple hb
 refine HT.cat_tup p1 p2 (λz=>hx (r1.nil_iff.mp z)) (λz=>⟨.ref a,H,I,rfl,q1 (r2.nil_iff.mp z)⟩) (λz=>?_) (by rw[←r1.length,←r2.length];exact hz)
 refine⟨.ref s.heap.objs.size,_,I.laid (t':=s.toks) (o:= .tup (xs ++ys)) (λb ob q=>Heap.get?_push_of_some _ q) (Nat.le_refl _) ?_,rfl,q2 (λw=>z (r2.nil_iff.mpr w)) _ (I.hok.fresh (Nat.le_refl _))⟩
 exact⟨by rw[List.length_append];exact hz,_,r1.append r2,IsTup.new _ _,NoDict.new rfl (Heap.get?_push_size _ rfl)⟩
end
noncomputable def ixN(n:Nat)(i:Int):Option Nat:=if 0<=i then(if i<n then some i.toNat else none)else if -(n:Int)<=i then some (i+n).toNat else none
noncomputable def atI{α:Type}(xs:List α)(i:Int):Option α:=(ixN xs.length i).bind λj=>xs[j]?
theorem zjD{n:Nat}{i:Int}{j:Nat}(h:ixN n i=some j):seqIndex? i n=some j/\j<n/\-(n:Int)<=i/\i<n:=by
 unfold ixN at h
 by_cases h0:0<=i
 ·rw[if_pos h0] at h
  by_cases h1:i<n
  ·rw[if_pos h1] at h
   have e:i.toNat=j:=Option.some.inj h
   exact⟨by rw[seqIndex_of h0 h1,e],by omega,by omega,h1⟩
  ·rw[if_neg h1] at h;cases h
 ·rw[if_neg h0] at h
  by_cases h1: -(n:Int)<=i
  ·rw[if_pos h1] at h
   have e:(i+n).toNat=j:=Option.some.inj h
   exact⟨by rw[seqIndex_neg (by omega) h1,e],by omega,h1,by omega⟩
  ·rw[if_neg h1] at h;cases h
theorem zg5{α:Type}{xs:List α}{i:Int}{v:α}(h:atI xs i=some v):∃j,seqIndex? i xs.length=some j/\xs[j]?=some v/\j<xs.length/\-(xs.length:Int)<=i/\i<xs.length:=by
 unfold atI at h
 cases e:ixN xs.length i with
 |none=>rw[e] at h;cases h
 |some j=>
  rw[e] at h
  obtain⟨h1,h2,h3,h4⟩:=zjD e
  exact⟨j,h1,h,h2,h3,h4⟩
theorem zI{α:Type}{xs:List α}{j:Nat}{v:α}(h:xs[j]?=some v):atI xs (j:Int)=some v:=by
 have hj:j<xs.length:=(List.getElem?_eq_some_iff.mp h).1
 have e:ixN xs.length (j:Int)=some j:=by
  unfold ixN
  rw[if_pos (by omega),if_pos (by omega)];simp
 unfold atI;rw[e];exact h
theorem zl2{α:Type}(xs:List α)(v:α):atI (xs ++ [v]) (-1)=some v:=by
 have hl:(xs ++ [v]).length=xs.length+1:=by simp
 have e:ixN (xs ++ [v]).length (-1)=some xs.length:=by
  unfold ixN
  rw[hl,if_neg (by decide),if_pos (by omega)]
  congr 1
  omega
 unfold atI
 rw[e]
 show(xs ++ [v])[xs.length]?=some v
 simp
def zjW(b:Expr):Prop:=∀o i,subscripted b false o i=operate [o,i] (getItem o i)
def IxR(X:Cx)(r:R2):Prop:=
 ∀(value slice:Expr) (pins:List (Addr×Obj)) (s:Shared) (σ:St) (H:Hp) (x y:V) (v u:Value) (Q:VK),Inv X pins σ H s->RelV x v->RelV y u->r x y H Q->
  subscripted slice false v u=operate [v,u] (getItem v u)->wpAny (model X.prog X.w) X.A (subscriptTail value slice v u) (EP X pins σ Q) X.xe s
def MtR(X:Cx)(id:String)(r:V->List V->Hp->VK->Prop):Prop:=
 ∀(pins:List (Addr×Obj)) (s:Shared) (σ:St) (H:Hp) (x:V) (xs:List V) (v:Value) (us:List Value) (Q:VK),Inv X pins σ H s->RelV x v->Vals xs us->r x xs H Q->
  wpAny (model X.prog X.w) X.A (call (.builtin id) (v::us)) (EP X pins σ Q) X.xe s
section
variable{X:Cx}{a b:Expr}{ta tb:TE}{pos:Pos}
theorem IxR.or{r r':R2}(h:IxR X r)(h':IxR X r'):IxR X (λx y H Q=>r x y H Q\/r' x y H Q):=by
 intro value slice pins s σ H x y v u Q I rx ry q hs
 rcases q with q|q
 ·exact h value slice pins s σ H x y v u Q I rx ry q hs
 ·exact h' value slice pins s σ H x y v u Q I rx ry q hs
theorem zp2{r:R2}(hr:IxR X r)(ha:PE X a ta)(hb:PE X b tb)(hs:zjW b):PE X (.Subscript a b pos) (tOp r ta tb):=by
 intro pins s σ H Q I h
 exact Subscript_ (zoD ha hb I h λv u s2 x y H2 I2 rx ry q=>hr a b pins s2 σ H2 x y v u Q I2 rx ry q (hs _ _))
noncomputable def zpy(K:PySem.W.Frag):R2:=λx y H Q=>∃p xs i v,x= .ref p/\y= .int i/\SqL K H p xs/\atI xs i=some v/\Q v H
noncomputable def zpl(K:PySem.W.Frag):R2:=λx y H Q=>∃p xs i v,x= .ref p/\y= .int i/\SqT K H p xs/\atI xs i=some v/\Q v H
noncomputable def zpY:R2:=λx y H Q=>∃z i c,x= .str z/\y= .int i/\z.length<=sizeLine/\atI z.cps.toList i=some c/\Q (.str ⟨#[c]⟩) H
theorem ix_list:IxR X (zpy X.K):=by
 intro value slice pins s σ H x y v u Q I rx ry h hs
 obtain⟨p,xs,i,z,rfl,rfl,hq,he,q⟩:=h
 cases rx
 obtain⟨t,rfl⟩:=ry
 obtain⟨its,r,pl,hz⟩:=I.list hq
 obtain⟨j,h1,h2,h3,h4,h5⟩:=zg5 he
 obtain⟨w,ew,rw'⟩:=r.get h2
 have hl:=r.length
 have hn:=zdv
 have fin:EP X pins σ Q w s:=⟨z,H,I,rw',q⟩
 by_cases h0:0<=i
 ·have hj:i.toNat=j:=by
   rw[seqIndex_of h0 h5] at h1
   exact Option.some.inj h1
  exact item_listR pl.isList h0 (by omega) (by rw[hj];simpa using ew) fin hs
 ·have hj:(i+(its.toArray.size:Int)).toNat=j:=by
   rw[seqIndex_neg (by omega) h4] at h1
   rw[List.size_toArray,←hl]
   exact Option.some.inj h1
  exact subscriptTail_builtinR (x:=w) pl.isList.typeIs slot_list_getitem.lookup
   (wpAny_getItem_list_neg (Q:=λr s'=>r=w/\EP X pins σ Q r s') pl.isList (by omega) (by rw[List.size_toArray]<;>omega) (by omega) (by rw[hj];simpa using ew) ⟨rfl,fin⟩) hs
theorem ix_tup:IxR X (zpl X.K):=by
 intro value slice pins s σ H x y v u Q I rx ry h hs
 obtain⟨p,xs,i,z,rfl,rfl,hq,he,q⟩:=h
 cases rx
 obtain⟨t,rfl⟩:=ry
 obtain⟨its,r,pl,hz⟩:=I.tuple hq
 obtain⟨j,h1,h2,h3,h4,h5⟩:=zg5 he
 obtain⟨w,ew,rw'⟩:=r.get h2
 have hl:=r.length
 have hn:=zdv
 have fin:EP X pins σ Q w s:=⟨z,H,I,rw',q⟩
 exact subscriptTail_builtinR (x:=w) pl.typeIs slot_tuple_getitem.lookup
  (getItem_tuple (j:=j) (Q:=λr s'=>r=w/\EP X pins σ Q r s') pl (by omega) (by omega) (by rw[List.size_toArray,←hl];exact h1) (by simpa using ew) ⟨rfl,fin⟩) hs
theorem zmm:IxR X zpY:=by
 intro value slice pins s σ H x y v u Q I rx ry h hs
 obtain⟨z,i,c,rfl,rfl,hz,he,q⟩:=h
 obtain⟨t,rfl⟩:=rx
 obtain⟨t',rfl⟩:=ry
 obtain⟨j,h1,h2,h3,h4,h5⟩:=zg5 he
 have hl:z.cps.toList.length=z.length:=by simp[Str.length]
 rw[hl] at h1 h4 h5
 have hn:=zdv
 exact tail_any (typeIs_str s z t) slot_str_getitem.lookup (getItem_str (c:=c) (by
  have e1:decide (i< -(2^63:Int))=false:=decide_eq_false (by omega)
  have e2:decide (i≥2^63)=false:=decide_eq_false (by omega)
  rw[e1,e2,Bool.or_false]) (by rw[h1];simpa using h2) ⟨.str ⟨#[c]⟩,H,I.tok _,⟨_,rfl⟩,q⟩) hs
noncomputable def rIx(K:PySem.W.Frag):R2:=λx y H Q=>zpy K x y H Q\/zpl K x y H Q\/zpY x y H Q
theorem zmq:IxR X (rIx X.K):=ix_list.or (ix_tup.or zmm)
theorem ziL(its:List Value)(n j:Nat)(u:Value):Obj.mapSeq (·.setIfInBounds j u) {cls:= .type "list",data:= .seq its.toArray n}={cls:= .type "list",data:= .seq (its.set j u).toArray n}:=by
 simp[Obj.mapSeq]
theorem Inv.lst{pins:List (Addr×Obj)}{σ:St}{H:Hp}{s:Shared}{p:Addr}{xs:List V}(I:Inv X pins σ H s)(h:H p=some (.lst xs)):
 ∃(its:List Value) (n:Nat),Vals xs its/\s.heap.get? p=some {cls:= .type "list",data:= .seq its.toArray n}/\xs.length<=sizeLine:=by
 obtain⟨z,its,n,r,e⟩:=I.hok p _ h
 exact⟨its,n,r,e,z⟩
theorem Inv.lstUpd{pins:List (Addr×Obj)}{σ:St}{H:Hp}{s:Shared}{p:Addr}{xs ys:List V}{its its':List Value}{n n':Nat}{f:Obj->Obj}(I:Inv X pins σ H s)(h:H p=some (.lst xs))
 (ho:s.heap.get? p=some {cls:= .type "list",data:= .seq its.toArray n}) (hf:f {cls:= .type "list",data:= .seq its.toArray n}={cls:= .type "list",data:= .seq its'.toArray n'}) (r:Vals ys its') (hz:ys.length<=sizeLine) (t:Nat):
 Inv X pins σ (upd H p (.lst ys)) {s with heap:=s.heap.update p f,toks:=t}:=by
 have e:(s.heap.update p f).get? p=some {cls:= .type "list",data:= .seq its'.toArray n'}:=by
  rw[Heap.get?_update_self f ho (by rw[hf]<;>rfl),hf]
 refine I.write (x:=p) (e:=p) (by rw[h];trivial) (.inl rfl) (λb u hb q=>(Heap.get?_update_other _ _ (Ne.symm hb)).trans q) ⟨_,e⟩ ?_
 exact⟨hz,its',n',r,e⟩
def zpW:V->V->V->Hp->(Hp->Prop)->Prop:=λo i v H Q=>∃p xs k j,o= .ref p/\i= .int k/\H p=some (.lst xs)/\ixN xs.length k=some j/\Q (upd H p (.lst (xs.set j v)))
theorem zcV:zpb X zpW:=by
 intro pins s σ H o i v ov iv u Q I ro ri rv h
 obtain⟨p,xs,k,j,rfl,rfl,hp,hj,q⟩:=h
 cases ro
 obtain⟨t,rfl⟩:=ri
 obtain⟨its,n,r,ho,hz⟩:=I.lst hp
 obtain⟨h1,h2,h3,h4⟩:=zjD hj
 have hl:=r.length
 have hn:=zdv
 have I':Inv X pins σ (upd H p (.lst (xs.set j v))) {s with heap:=s.heap.update p (Obj.mapSeq (·.setIfInBounds j u))}:=
  I.lstUpd hp ho (ziL its n j u) (r.set rv j) (by rw[List.length_set];exact hz) s.toks
 by_cases h0:0<=k
 ·have hk:k.toNat=j:=by
   rw[seqIndex_of h0 h4] at h1
   exact Option.some.inj h1
  exact PySem.W.ki_setAt ho h0 (by omega) (by rw[List.size_toArray,←hl];exact h4) (by rw[hk];exact⟨_,I',q⟩)
 ·have hk:(k+(its.toArray.size:Int)).toNat=j:=by
   rw[seqIndex_neg (by omega) h3] at h1
   rw[List.size_toArray,←hl]
   exact Option.some.inj h1
  exact PySem.W.ki_setBack ho (by omega) (by rw[List.size_toArray,←hl];exact h3) (by omega) (by rw[hk];exact⟨_,I',q⟩)
theorem zgC(lo hi:Option Int)(n:Nat):(sliceBounds lo hi none n).1=((HT.sIx n 0 lo:Nat):Int)/\(sliceBounds lo hi none n).2.1=((HT.sIx n n hi:Nat):Int)/\(sliceBounds lo hi none n).2.2=1:=by
 refine⟨?_,?_,rfl⟩
 ·cases lo with
  |none=>simp[sliceBounds,HT.sIx]
  |some i=>
   simp only[sliceBounds,HT.sIx,Option.getD_none,show(1:Int)>0 by decide,if_true]
   by_cases h:i<0
   ·simp only[h,if_true]<;>omega
   ·simp only[h,if_false]<;>omega
 ·cases hi with
  |none=>simp[sliceBounds,HT.sIx]
  |some i=>
   simp only[sliceBounds,HT.sIx,Option.getD_none,show(1:Int)>0 by decide,if_true]
   by_cases h:i<0
   ·simp only[h,if_true]<;>omega
   ·simp only[h,if_false]<;>omega
theorem zfL(its:List Value)(lo hi:Option Int):slicePick its.toArray lo hi none=((its.drop (HT.sIx its.length 0 lo)).take (HT.sIx its.length its.length hi -HT.sIx its.length 0 lo)).toArray:=by
 obtain⟨h1,h2,h3⟩:=zgC lo hi its.toArray.size
 unfold slicePick
 rw[h1,h2,h3]
 simp only[sliceRange_one,pick_run,List.size_toArray]<;>rfl
def zqh(K:PySem.W.Frag):V->Option Int->Option Int->Hp->VK->Prop:=λx lo hi H Q=>∃a xs,x= .ref a/\SqL K H a xs/\∀p,H p=none->Q (.ref p) (upd H p (.lst (zdn xs lo hi)))
theorem zg9:SlR X (zqh X.K):=by
 intro pins s σ H x v vl vu lo hi sl Q I rx hs pl pu h
 obtain⟨a,xs,rfl,hx,q⟩:=h
 cases rx
 obtain⟨its,r,ht,hz⟩:=I.list hx
 have hlen:=r.length
 refine⟨"list",_,slot_list_getitem.lookup,ht.isList.typeIs,?_⟩
 refine wpAny_getItem_list_slice ht.isList hs pl pu .none (by simp) ?_ (by rw[List.size_toArray]<;>omega)
 rw[zfL,←hlen]
 refine⟨.ref s.heap.objs.size,_,I.laid (t':=s.toks) (o:= .lst (zdn xs lo hi)) (λb ob q=>Heap.get?_push_of_some _ q) (Nat.le_refl _) ?_,rfl,q _ (I.hok.fresh (Nat.le_refl _))⟩
 exact⟨Nat.le_trans (zik xs lo hi) hz,_,0,(r.drop (HT.sIx xs.length 0 lo)).take (HT.sIx xs.length xs.length hi -HT.sIx xs.length 0 lo),Heap.get?_push_size _ rfl⟩
noncomputable def zdN:V->Bool
 | .non=>true
 | .bl _=>true
 | .int _=>true
 | .str _=>true
 |_=>false
noncomputable def eqV:V->V->Bool
 | .non, .non=>true
 | .bl a, .bl b=>a==b
 | .bl a, .int b=>(if a then 1 else 0)==b
 | .int a, .bl b=>a==(if b then 1 else 0)
 | .int a, .int b=>a==b
 | .str a, .str b=>a==b
 |_,_=>false
theorem zoW{A:Around}{s:Shared}{y x:V}{u v:Value}(ry:RelV y u)(rx:RelV x v)(fy:zdN y=true)(fx:zdN x=true):SeqAt.EqAt A s u v (eqV y x):=by
 cases y with
 |non=>
  cases ry
  cases x with
  |non=>cases rx;exact SeqAt.EqAt.same _
  |bl b=>cases rx;exact SeqAt.EqAt.none_bool b
  |int b=>obtain ⟨t,rfl⟩:=rx;exact SeqAt.EqAt.none_int b t
  |str b=>obtain ⟨t,rfl⟩:=rx;exact SeqAt.EqAt.none_str b t
  |_=>exact absurd (show false=true from fx) Bool.false_ne_true
 |bl a=>
  cases ry
  cases x with
  |non=>cases rx;exact SeqAt.EqAt.bool_none a
  |bl b=>cases rx;exact SeqAt.EqAt.bool_bool a b
  |int b=>obtain ⟨t,rfl⟩:=rx;exact SeqAt.EqAt.bool_int a b t
  |str b=>obtain ⟨t,rfl⟩:=rx;exact SeqAt.EqAt.bool_str a b t
  |_=>exact absurd (show false=true from fx) Bool.false_ne_true
 |int a=>
  obtain⟨t',rfl⟩:=ry
  cases x with
  |non=>cases rx;exact SeqAt.EqAt.int_none a t'
  |bl b=>cases rx;exact SeqAt.EqAt.int_bool a t' b
  |int b=>obtain ⟨t,rfl⟩:=rx;exact SeqAt.EqAt.int_int a t' b t
  |str b=>obtain ⟨t,rfl⟩:=rx;exact SeqAt.EqAt.int_str a t' b t
  |_=>exact absurd (show false=true from fx) Bool.false_ne_true
 |str a=>
  obtain⟨t',rfl⟩:=ry
  cases x with
  |non=>cases rx;exact SeqAt.EqAt.str_none a t'
  |bl b=>cases rx;exact SeqAt.EqAt.str_bool a t' b
  |int b=>obtain ⟨t,rfl⟩:=rx;exact SeqAt.EqAt.str_int a t' b t
  |str b=>obtain ⟨t,rfl⟩:=rx;exact SeqAt.EqAt.str_str a t' b t
  |_=>exact absurd (show false=true from fx) Bool.false_ne_true
 |_=>exact absurd (show false=true from fy) Bool.false_ne_true
noncomputable def eqU(x:V)(u:Value):Bool:=match u with
 | .none=>eqV .non x
 | .bool b=>eqV (.bl b) x
 | .int i _=>eqV (.int i) x
 | .str z _=>eqV (.str z) x
 |_=>false
theorem zlt{x y:V}{u:Value}(r:RelV y u)(f:zdN y=true):eqU x u=eqV y x:=by
 cases y with
 |non=>cases r;rfl
 |bl b=>cases r;rfl
 |int i=>obtain ⟨t,rfl⟩:=r;rfl
 |str z=>obtain ⟨t,rfl⟩:=r;rfl
 |_=>exact absurd (show false=true from f) Bool.false_ne_true
theorem zdX{x:V}:∀{xs:List V} {us:List Value},Vals xs us->xs.all zdN=true->us.any (eqU x)=xs.any λy=>eqV y x
 |_,_, .nil,_=>rfl
 |y::xs,u::us, .cons r t,f=>by
  rw[List.all_cons,Bool.and_eq_true] at f
  rw[List.any_cons,List.any_cons,zlt r f.1,zdX t f.2]
theorem zcX{A:Around}{s:Shared}{x:V}{v:Value}(rx:RelV x v)(fx:zdN x=true):∀{xs:List V} {us:List Value},Vals xs us->xs.all zdN=true->∀u∈us,SeqAt.EqAt A s u v (eqU x u)
 |_,_, .nil,_=>λu hu=>by cases hu
 |y::xs,u::us, .cons r t,f=>λu' hu=>by
  rw[List.all_cons,Bool.and_eq_true] at f
  rcases List.mem_cons.mp hu with rfl|hu
  ·rw[zlt r f.1];exact zoW r rx f.1 fx
  ·exact zcX rx fx t f.2 u' hu
noncomputable def inV(x:V)(xs:List V):Bool:=xs.any λy=>eqV y x
noncomputable def rIn(K:PySem.W.Frag)(neg:Bool):R2:=λx y H Q=>∃p xs,y= .ref p/\(SqL K H p xs\/SqT K H p xs)/\zdN x=true/\xs.all zdN=true/\Q (.bl (if neg then !inV x xs else inV x xs)) H
theorem zd3:OpR X (compareOp .In) (rIn X.K false):=by
 intro pins s σ H x y v u Q I rx ry h
 obtain⟨p,xs,rfl,hq,fx,fs,q⟩:=h
 cases ry
 rcases hq with hq|hq
 ·obtain ⟨its,r,pl,hz⟩:=I.list hq
  refine SeqAt.in_listAt (eqU x) pl.isList (λw hw=>zcX rx fx r fs w (by simpa using hw)) ⟨.bl _,H,I,rfl,?_⟩
  rw[show its.toArray.any (eqU x)=its.any (eqU x) by simp,zdX r fs]
  exact q
 ·obtain ⟨its,r,pl,hz⟩:=I.tuple hq
  refine SeqAt.in_tupleAt (eqU x) pl (λw hw=>zcX rx fx r fs w (by simpa using hw)) ⟨.bl _,H,I,rfl,?_⟩
  rw[show its.toArray.any (eqU x)=its.any (eqU x) by simp,zdX r fs]
  exact q
theorem zgF:OpR X (compareOp .NotIn) (rIn X.K true):=by
 intro pins s σ H x y v u Q I rx ry h
 obtain⟨p,xs,rfl,hq,fx,fs,q⟩:=h
 cases ry
 rcases hq with hq|hq
 ·obtain ⟨its,r,pl,hz⟩:=I.list hq
  refine SeqAt.notIn_listAt (eqU x) pl.isList (λw hw=>zcX rx fx r fs w (by simpa using hw)) ⟨.bl _,H,I,rfl,?_⟩
  rw[show its.toArray.any (eqU x)=its.any (eqU x) by simp,zdX r fs]
  exact q
 ·obtain ⟨its,r,pl,hz⟩:=I.tuple hq
  refine SeqAt.notIn_tupleAt (eqU x) pl (λw hw=>zcX rx fx r fs w (by simpa using hw)) ⟨.bl _,H,I,rfl,?_⟩
  rw[show its.toArray.any (eqU x)=its.any (eqU x) by simp,zdX r fs]
  exact q
theorem call_len_seq:CallR X (.builtin "len") (λxs H Q=>∃p ys,xs=[.ref p]/\(SqL X.K H p ys\/SqT X.K H p ys)/\Q (.int ys.length) H):=by
 intro pins s σ H xs us Q I r h
 obtain⟨p,ys,rfl,hq,q⟩:=h
 obtain⟨u,rfl,rx⟩:=zcN r
 cases rx
 have hn:=zdv
 rcases hq with hq|hq
 ·obtain ⟨its,r',pl,hz⟩:=I.list hq
  have hlen:=r'.length
  exact Calls.call_len_list pl.isList (by simp only[List.size_toArray]<;>omega) ⟨.int ys.length,H,I.tok _,⟨s.toks+1,by rw[List.size_toArray,hlen]⟩,q⟩
 ·obtain ⟨its,r',pl,hz⟩:=I.tuple hq
  have hlen:=r'.length
  exact len_tuple pl (by simp only[List.size_toArray]<;>omega) ⟨.int ys.length,H,I.tok _,⟨s.toks+1,by rw[List.size_toArray,hlen]⟩,q⟩
theorem zgO:CallR X (.builtin "len") (λxs H Q=>∃z,xs=[.str z]/\z.length<=sizeLine/\Q (.int z.length) H):=by
 intro pins s σ H xs us Q I r h
 obtain⟨z,rfl,hz,q⟩:=h
 obtain⟨u,rfl,t,rfl⟩:=zcN r
 have hn:=zdv
 exact len_str (by omega) ⟨.int z.length,H,I.tok _,⟨_,rfl⟩,q⟩
theorem CallR.or{f:Value}{r r':List V->Hp->VK->Prop}(h:CallR X f r)(h':CallR X f r'):CallR X f (λxs H Q=>r xs H Q\/r' xs H Q):=by
 intro pins s σ H xs us Q I rs q
 rcases q with q|q
 ·exact h pins s σ H xs us Q I rs q
 ·exact h' pins s σ H xs us Q I rs q
theorem zhi:CallR X (.type "list") (λxs H Q=>∃p ys,xs=[.ref p]/\(SqL X.K H p ys\/SqT X.K H p ys)/\∀l,H l=none->Q (.ref l) (upd H l (.lst ys))):=by
 intro pins s σ H xs us Q I r h
 obtain⟨p,ys,rfl,hq,q⟩:=h
 obtain⟨u,rfl,rx⟩:=zcN r
 cases rx
 have fin:∀(its:List Value),Vals ys its->ys.length<=sizeLine->∀(h':Heap) (c':Nat),(∀b o',s.heap.get? b=some o'->h'.get? b=some o')->
  h'.get? s.heap.objs.size=some {cls:= .type "list",dict:=none,data:= .seq its.toArray c',slots:= #[]}->EP X pins σ Q (.ref s.heap.objs.size) {s with heap:=h'}:=λits r' hz h' c' kp e=>
  ⟨.ref s.heap.objs.size,_,I.laid (t':=s.toks) kp (Nat.le_refl _) (show ObjOk X.prog X.w _ h' _ (.lst ys)from⟨hz,its,c',r',e⟩),rfl,q _ (I.hok.fresh (Nat.le_refl _))⟩
 rcases hq with hq|hq
 ·obtain ⟨its,r',pl,hz⟩:=I.list hq
  have hlen:=r'.length
  obtain⟨o,ho,hc,n,hd⟩:=pl.isList
  exact call_list_seq p (.inl rfl) ho hc hd (λh' c' kp e=>fin its r' hz h' c' kp e) (by simp only[List.size_toArray]<;>omega)
 ·obtain ⟨its,r',pl,hz⟩:=I.tuple hq
  have hlen:=r'.length
  obtain⟨o,ho,hc,n,hd⟩:=pl
  exact call_list_seq p (.inr rfl) ho hc hd (λh' c' kp e=>fin its r' hz h' c' kp e) (by simp only[List.size_toArray]<;>omega)
theorem zO:CallR X (.type "tuple") (λxs H Q=>∃p ys,xs=[.ref p]/\((SqL X.K H p ys/\∀l,H l=none->Q (.ref l) (upd H l (.tup ys)))\/(SqT X.K H p ys/\Q (.ref p) H))):=by
 intro pins s σ H xs us Q I r h
 obtain⟨p,ys,rfl,h⟩:=h
 obtain⟨u,rfl,rx⟩:=zcN r
 cases rx
 rcases h with⟨hq,q⟩|⟨hq,q⟩
 ·obtain ⟨its,r',pl,hz⟩:=I.list hq
  have hlen:=r'.length
  refine call_tuple_list pl.isList (λh' kp=>?_) (by simp only[List.size_toArray]<;>omega)
  have I1:Inv X pins σ H {s with heap:=h'}:=I.kept (t':=s.toks) kp
  have I2:Inv X pins σ (upd H h'.objs.size (.tup ys)) {s with heap:=h'.push {cls:= .type "tuple",data:= .seq its.toArray}}:=
   I1.laid (t':=s.toks) (λb o e=>Heap.get?_push_of_some _ e) (Nat.le_refl _) (show ObjOk X.prog X.w _ _ _ (.tup ys)from⟨hz,its,r',IsTup.new _ _,NoDict.new rfl (Heap.get?_push_size _ rfl)⟩)
  exact⟨.ref h'.objs.size,_,I2,rfl,q _ (I1.hok.fresh (Nat.le_refl _))⟩
 ·obtain ⟨its,r',pl,hz⟩:=I.tuple hq
  exact call_tuple_same pl ⟨.ref p,H,I,rfl,q⟩
def tyV(K:PySem.W.Frag)(T:String)(x:V)(H:Hp):Prop:=match x with
 | .str _=>T="str"
 | .int _=>T="int"
 | .ref p=>(T="list"/\∃xs,SqL K H p xs)\/(T="tuple"/\∃o,K.lookup p=some o/\o.cls= .type "tuple"/\o.dict=none)\/
    (T="dict"/\((∃kvs,H p=some (.dK kvs))\/∃kvs,H p=some (.dT kvs)))\/(T="set"/\∃S n,H p=some (.set S n))\/(T="tuple"/\∃xs,H p=some (.tup xs))
 |_=>False
theorem zoY{pins:List (Addr×Obj)}{σ:St}{H:Hp}{s:Shared}{T:String}{x:V}{v:Value}(I:Inv X pins σ H s)(r:RelV x v)(ty:tyV X.K T x H):
 s.TypeIs v T/\∀a,v= .ref a->∃ob,s.heap.get? a=some ob/\ob.dict=none:=by
 cases x with
 |str z=>
  obtain⟨t,rfl⟩:=r
  cases(show T="str"from ty)
  exact⟨typeIs_str s z t,λ_ e=>nomatch e⟩
 |int i=>
  obtain⟨t,rfl⟩:=r
  cases(show T="int"from ty)
  exact⟨typeIs_int s i t,λ_ e=>nomatch e⟩
 |ref p=>
  cases r
  rcases ty with⟨rfl,xs,hq⟩|⟨rfl,o,hk,hc,hd⟩|⟨rfl,hk⟩|⟨rfl,S,n,hk⟩|⟨rfl,xs,hk⟩
  ·obtain ⟨its,_,pl,_⟩:=I.list hq
   refine⟨pl.isList.typeIs,λa e=>?_⟩
   cases e
   obtain⟨o,n,e,c,hd,_⟩:=pl
   exact⟨o,e,hd⟩
  ·refine ⟨⟨o,I.kIn p o hk,hc⟩,λa e=>?_⟩
   cases e
   exact⟨o,I.kIn _ o hk,hd⟩
  ·have z:∃o,s.heap.get? p=some o/\o.ExactDict:=by
    rcases hk with⟨kvs,hk⟩|⟨kvs,hk⟩
    ·obtain ⟨_,_,_,_,o,_,_,e,ex,_⟩:=I.hok p _ hk
     exact⟨o,e,ex⟩
    ·obtain ⟨_,_,_,_,o,_,_,e,ex,_⟩:=I.hok p _ hk
     exact⟨o,e,ex⟩
   obtain⟨o,e,ex⟩:=z
   refine⟨⟨o,e,ex.1⟩,λa e2=>?_⟩
   cases e2
   exact⟨o,e,ex.2.1⟩
  ·obtain ⟨o,_,_,_,e,ex,_⟩:=I.hok p _ hk
   refine⟨⟨o,e,ex.1⟩,λa e2=>?_⟩
   cases e2
   exact⟨o,e,ex.2.1⟩
  ·obtain ⟨_,_,_,⟨o,e,c,_⟩,nd⟩:=I.hok p _ hk
   refine⟨⟨o,e,c⟩,λa e2=>?_⟩
   cases e2
   exact⟨o,e,nd o e⟩
 |_=>exact False.elim ty
def tBM(K:PySem.W.Frag)(T:String)(r:V->List V->Hp->VK->Prop)(to:TE)(t:TA):TE:=λσ H Q=>to σ H λx H1=>tyV K T x H1/\t σ H1 λxs H2=>r x xs H2 Q
variable{o e:Expr}{es:List Expr}{to:TE}{t:TA}{name:Str}{apos cpos:Pos}{T id:String}{r:V->List V->Hp->VK->Prop}
theorem zpt(pa:PlainAttrs T)(slot:Slot T name id)(hty:typeOf (.builtin id)=pure (.type "method_descriptor"))(hm:MtR X id r)(ho:PE X o to)(ha:PA X (e::es) t)
 (hbase:attributeBase o name X.env (eval o X.env)=eval o X.env:=by rfl)
 (hfew:((backTo cpos (starEach (e::es) X.env)).all (λx=>!x.1)&&(backToKw cpos (keywordEach [] X.env)).all (λx=>x.1.isSome)
   &&decide ((e::es).length+([]:List Keyword).length+(if([]:List Keyword).isEmpty then 0 else 1)<30))=true:=by rfl)
 (hline:(apos.endLine==cpos.line)=true:=by rfl) (hs:starEach (e::es) X.env=(false,eval e X.env)::starEach es X.env:=by rfl) (hplain:(backTo cpos (starEach es X.env)).any (·.1)=false:=by rfl):
 PE X (.Call (.Attribute o name apos) (e::es) [] cpos) (tBM X.K T r to t):=by
 intro pins s σ H Q I h
 refine wpAny_Call_method_late hbase hfew hline rfl (thn (ho pins s σ H _ I h) λv s1 ⟨x,H1,I1,r1,ty,q1⟩=>?_)
 obtain⟨h1,h2⟩:=zoY I1 r1 ty
 refine⟨T,id,pa,slot,hty,h1,h2,?_⟩
 have hA:=ha cpos pins s1 σ H1 _ I1 q1
 rw[hs] at hA⊢
 refine Calls.callWith_builtin (by show(false||(backTo cpos (starEach es X.env)).any (·.1))=false;rw[hplain]<;>rfl) (Calls.evalArgs_plain ?_)
 exact thn hA λus s2 ⟨vs,H2,I2,r2,q2⟩=>hm pins s2 σ H2 x vs v us Q I2 r1 r2 q2
end
def MtM(X:Cx)(id:String)(r:V->List V->Hp->VK->Prop):Prop:=
 ∀(pins:List (Addr×Obj)) (s:Shared) (σ:St) (H:Hp) (x:V) (xs:List V) (v:Value) (us:List Value) (Q:VK),Inv X pins σ H s->RelV x v->Vals xs us->r x xs H Q->
  wpAny (model X.prog X.w) X.A (call (.builtin id) (v::us)) (EP X pins σ Q) X.xe s
theorem Vals.one:∀{x:V} {us:List Value},Vals [x] us->∃u,us=[u]/\RelV x u
 |_,_, .cons r .nil=>⟨_,rfl,r⟩
theorem Vals.eraseIdx:∀{xs:List V} {us:List Value} (i:Nat),Vals xs us->Vals (xs.eraseIdx i) (us.eraseIdx i)
 |_,_,_, .nil=> .nil
 |_,_,0, .cons _ t=>t
 |_,_,i+1, .cons r t=> .cons r (Vals.eraseIdx i t)
theorem zgh{α:Type}:∀(l:List α) (i:Nat),(l.eraseIdx i).length<=l.length
 |[],_=>Nat.le_refl _
 |_::_,0=>Nat.le_succ _
 |_::r,i+1=>Nat.succ_le_succ (zgh r i)
section
variable{X:Cx}{pins:List (Addr×Obj)}{σ:St}{H:Hp}{s:Shared}{l b:Addr}{xs ys zs:List V}
theorem Inv.lset{its its':List Value}{n:Nat}{f:Array Value->Array Value}{t':Nat}(I:Inv X pins σ H s)(hH:H l=some (.lst xs))
 (e:s.heap.get? l=some {cls:= .type "list",data:= .seq its.toArray n}) (hf:f its.toArray=its'.toArray) (hv:Vals ys its') (hz:ys.length<=sizeLine):
 Inv X pins σ (upd H l (.lst ys)) {s with heap:=s.heap.update l (Obj.mapSeq f),toks:=t'}:=by
 have q:=PySem.IsL.update e f
 rw[hf] at q
 refine I.write (x:=l) (e:=l) (by rw[hH];exact trivial) (.inl rfl) (λb' u hb hu=>(Heap.get?_update_other s.heap (Obj.mapSeq f) (Ne.symm hb)).trans hu) ⟨_,q⟩ ?_
 exact⟨hz,its',_,hv,q⟩
theorem Inv.lnew{its:List Value}{t':Nat}(I:Inv X pins σ H s)(hv:Vals ys its)(hz:ys.length<=sizeLine):
 Inv X pins σ (upd H s.heap.objs.size (.lst ys)) {s with heap:=s.heap.push {cls:= .type "list",data:= .seq its.toArray},toks:=t'}:=
 I.laid (λ_ _ q=>Heap.get?_push_of_some _ q) (Nat.le_refl _) ⟨hz,its,0,hv,Heap.get?_push_size _ rfl⟩
theorem Inv.fresh(I:Inv X pins σ H s):H s.heap.objs.size=none:=I.hok.fresh (Nat.le_refl _)
theorem Inv.lstM(I:Inv X pins σ H s)(hH:H l=some (.lst xs)):xs.length<=sizeLine/\∃(its:List Value) (n:Nat),Vals xs its/\xs.length=its.length/\s.heap.get? l=some {cls:= .type "list",data:= .seq its.toArray n}:=by
 obtain⟨z,its,n,r,e⟩:=I.hok l _ hH
 exact⟨z,its,n,r,r.length,e⟩
theorem zln{n:Nat}(h:n<=sizeLine):Builtin.List.listTooLong n=false:=by
 unfold Builtin.List.listTooLong
 exact decide_eq_false (by omega)
end
section
variable{X:Cx}
def znr:V->List V->Hp->VK->Prop:=λx vs H Q=>∃l xs y,x= .ref l/\vs=[y]/\H l=some (.lst xs)/\xs.length<sizeLine/\Q .non (upd H l (.lst (xs ++ [y])))
theorem zaS:MtM X "list.append" znr:=by
 intro pins s σ H x vs v us Q I rx rv h
 obtain⟨l,xs,y,rfl,rfl,hH,hz,q⟩:=h
 cases rx
 obtain⟨u,rfl,ru⟩:=rv.one
 obtain⟨z,its,n,r,hl,e⟩:=I.lstM hH
 refine call_meets F.slot_list_append ⟨_,e,rfl⟩ F.entry_list_append (F.args_list_append_2 _ _) (PySem.list_append l its.toArray n u (by rw[List.size_toArray];omega)) ⟨e,?_⟩
 refine⟨.non,_,I.lset (its':=its ++ [u]) hH e (by simp) (r.append (.cons ru .nil)) ?_,rfl,q⟩
 rw[List.length_append,List.length_singleton]
 omega
def zmI:V->List V->Hp->VK->Prop:=λx vs H Q=>∃l b xs zs,x= .ref l/\vs=[.ref b]/\H l=some (.lst xs)/\H b=some (.lst zs)/\xs.length+zs.length<=sizeLine/\Q .non (upd H l (.lst (xs ++zs)))
theorem zkp:MtM X "list.extend" zmI:=by
 intro pins s σ H x vs v us Q I rx rv h
 obtain⟨l,b,xs,zs,rfl,rfl,hH,hB,hz,q⟩:=h
 cases rx
 obtain⟨u,rfl,ru⟩:=rv.one
 cases ru
 obtain⟨z,its,n,r,hl,e⟩:=I.lstM hH
 obtain⟨z2,its2,n2,r2,hl2,e2⟩:=I.lstM hB
 have hsz:its.toArray.size+its2.toArray.size<=sizeLine:=by rw[List.size_toArray,List.size_toArray];omega
 have hlong:¬(!its.toArray.isEmpty&&Builtin.List.listTooLong (its.toArray.size+its2.toArray.size))=true:=by
  rw[zln hsz,Bool.and_false]
  exact Bool.false_ne_true
 refine call_meets F.slot_list_extend ⟨_,e,rfl⟩ F.entry_list_extend (F.args_list_extend_2 _ _)
  (AutoSeq1.list_extend_list_list_0 l its.toArray n b its2.toArray n2 hlong (by rw[List.size_toArray];omega) (by omega)) ⟨e,e2,?_⟩
 refine⟨.non,_,I.lset (its':=its ++its2) hH e (by simp) (r.append r2) ?_,rfl,q⟩
 rw[List.length_append]
 omega
def zoK:V->List V->Hp->VK->Prop:=λx vs H Q=>∃l xs i k y,x= .ref l/\vs=[.int i]/\H l=some (.lst xs)/\-(2^63)<=i/\i<2^63/\seqIndex? i xs.length=some k/\xs[k]?=some y/\Q y (upd H l (.lst (xs.eraseIdx k)))
theorem zlZ:MtM X "list.pop" zoK:=by
 intro pins s σ H x vs v us Q I rx rv h
 obtain⟨l,xs,i,k,y,rfl,rfl,hH,h1,h2,hk,hy,q⟩:=h
 cases rx
 obtain⟨u,rfl,ru⟩:=rv.one
 obtain⟨t,rfl⟩:=ru
 obtain⟨z,its,n,r,hl,e⟩:=I.lstM hH
 obtain⟨w,hw,rw'⟩:=r.get hy
 refine call_meets F.slot_list_pop ⟨_,e,rfl⟩ F.entry_list_pop (F.args_list_pop_2 _ _)
  (MeetsSeq.list_pop_at l its.toArray n i t k w (fitsIndex_both h1 h2) (by rw[List.size_toArray,←hl];exact hk) (by rw[←Array.getElem?_toList];exact hw) (by rw[List.size_toArray];omega)) ⟨e,?_⟩
 refine⟨y,_,I.lset (its':=its.eraseIdx k) hH e ?_ (r.eraseIdx k) ?_,rw',q⟩
 ·show its.toArray.eraseIdxIfInBounds k=(its.eraseIdx k).toArray
  rw[List.eraseIdxIfInBounds_toArray]
 ·have:=zgh xs k
  omega
noncomputable def zqk:R2:=λx y H Q=>∃l b xs zs,x= .ref l/\y= .ref b/\H l=some (.lst xs)/\H b=some (.lst zs)/\xs.length+zs.length<=sizeLine/\∀p,H p=none->Q (.ref p) (upd H p (.lst (xs ++zs)))
theorem ziB:OpR X (binaryOp .Add) zqk:=by
 intro pins s σ H x y v u Q I rx ry h
 obtain⟨l,b,xs,zs,rfl,rfl,hH,hB,hz,q⟩:=h
 cases rx
 cases ry
 obtain⟨z,its,n,r,hl,e⟩:=I.lstM hH
 obtain⟨z2,its2,n2,r2,hl2,e2⟩:=I.lstM hB
 refine PySem.P.add_list e e2 ?_ (by rw[List.size_toArray,List.size_toArray];omega)
 have ea:its.toArray ++its2.toArray=(its ++its2).toArray:=by simp
 rw[ea]
 exact⟨.ref _,_,I.lnew (t':=s.toks) (r.append r2) (by rw[List.length_append];omega),rfl,q _ I.fresh⟩
end
section
variable{prog:Program}{w:World}{A:Around}{E:Value->Shared->Prop}{s:Shared}
set_option maxRecDepth 100000 in
end
section
variable{X:Cx}
end
end L2
namespace Att
open PySem PySem.W PySem.Calls PyProof.Rows
theorem zez{P:Params}{h:Heap}:∀(ns:List Int) (vs:List Value),WellAll P h vs (ns.map WData.int)->IntsAre vs ns:=by
 intro ns
 induction ns with
 |nil=>
  intro vs w
  rw[List.map_nil] at w
  cases w
  exact .nil
 |cons n ns ih=>
  intro vs w
  rw[List.map_cons] at w
  cases w with
  |cons a b=>
   cases a
   exact .cons _ _ (ih _ b)
theorem zj5{l:OpenLaw}{n:Nat}(hn:l.most=some n){P:Params}{h:Heap}{args:List WData}{vals:List Value}
 (hpre:l.row.toRowW.claim.pre args=true) (hwl:WellAll P h vals args):
 ∃a vs ns,vals=[Value.ref a]/\args=[WData.list (ns.map WData.int)]/\h.get? a=some {cls:= .type "list",data:= .seq vs.toArray}/\IntsAre vs ns/\ns.length<=n:=by
 have hsh:WShape.hasAll [] args [.list .int]=true:=(pre_splitW hpre).1
 have hc:l.pre.holds [] {args:=args}=true:=(pre_splitW hpre).2
 obtain⟨d,r,rfl,h1,h2⟩:=hasAllW_cons hsh
 obtain rfl:=hasAllW_nil h2
 obtain⟨xs,rfl,h3⟩:=hasW_list h1
 obtain⟨ns,rfl⟩:=items_int h3
 have hlen:ns.length<=n:=by
  unfold OpenLaw.pre at hc
  have h4:(WTm.not (.lt (.lit (.int (n:Int))) (.len (.arg 0)))).holds [] {args:=[.list (ns.map .int)]}=true:=by
   have h4:=(holds_andW hc).1
   rw[hn] at h4
   exact h4
  have h5:=condW_of h4 (w_not (w_lt w_lit (w_len_list (w_arg rfl))))
  rw[List.length_map] at h5
  refine Nat.le_of_not_lt λq=>?_
  have q':(n:Int)<((ns.length:Nat):Int):=by omega
  first
   |(rw[decide_eq_true q'] at h5;exact absurd h5 (by decide))
   |(simp at h5;omega)
 cases hwl with
 |cons w1 w2=>
  cases w2
  cases w1 with
  |list ho hall=>exact ⟨_,_,ns,rfl,rfl,ho,zez ns _ hall,hlen⟩
theorem zkM(l:OpenLaw)(args:List WData):l.row.toRowW.claim.post args (.bool true) args=true:=
 postW_of (r:=l.row.toRowW) (X:=(true==true))
  (show WShape.has [] (.bool true) .bool=true by first|rfl|decide|simp[WShape.has,WShape.arms,WShape.armsAll])
  (show(WTm.eq .res (.lit (.bool true))).value [] {args:=args,res:=some (.bool true),after:=args}=some (.bool (true==true))from w_eq_bool (w_res rfl) w_lit) rfl
theorem attach_call{l:OpenLaw}{n:Nat}{q:Program}{loose:List Str}{XP:(Str->Option Value)->Heap->Prop}{YP:World->Heap->Prop}{d:DefRec}
 (hn:l.most=some n) (hdf:d.params.defaults=[])
 (call:∀(w:World) (s₀ s₁:Shared) (mg mb:Str->Option Value) (fa:Addr) (o:Obj) (pm cd doc:Value) (a:Addr) (vs:List Value) (ns:List Int),
   Ground q loose [] XP w s₀ mg mb s₁.heap->YP w s₁.heap->
   s₁.heap.get? fa=some o->o.data= .func (docDef d.name d.params d.body d.scope pm cd doc)->s₁.heap.CodeRec cd d.name->mg d.name=some (.ref fa)->
   s₁.heap.get? a=some {cls:= .type "list",data:= .seq vs.toArray}->IntsAre vs ns->ns.length<=n->s₁.gens= #[]->
   codeAny (model l.prog w) callerA (.call (.ref fa) ⟨[.ref a],[]⟩) (λr s'=>r= .ok (.ret (.bool true))/\OldK s₁.heap s'.heap/\s'.os=s₁.os/\AllBare s'.gens) s₁):
 WalkO q loose XP YP l.row.toRowW d [] (λf vs=>PySem.call f vs):=by
 intro w s₀ s₁ mg mb G Y fa o pm cd doc dV kV ho hd hcd hD hmg hg args vals as hpre hlay hrd hwl hlo
 obtain rfl:dV= .none:=Dflts.none hD hdf
 obtain rfl:kV= .none:=Dflts.noKw hD
 obtain⟨a,vs,ns,rfl,rfl,hobj,hints,hlen⟩:=zj5 hn hpre hwl
 refine enter_call (codeAny_mono (call w s₀ s₁ mg mb fa o pm cd doc a vs ns G Y ho (fd_plain hd) hcd hmg hobj hints hlen hg) λr s' hq=>?_)
 obtain⟨rfl,h2,h3,h4⟩:=hq
 exact⟨.inl ⟨.bool true, .bool true,[],rfl,λ_=>rfl, .bool true,zkM l _,λ_=>⟨List.Pairwise.nil,λ_ hm=>(nomatch hm)⟩⟩,h2,h3,h4⟩
section
variable{prog:Program}{w:World}{A:Around}{E:Value->Shared->Prop}{s:Shared}{K:Frag}
end
end Att
namespace L2
open PySem PySem.Spec PyProof.Rows
theorem zgq:∀{vs:List Value} {ns:List Int},IntsAre vs ns->Vals (ns.map V.int) vs
 |_,_, .nil=> .nil
 |_,_, .cons n t h=> .cons ⟨t,rfl⟩ (zgq h)
def zoG(H:Hp):Prop:=∀b,H b=none\/∃o xs,H b=some (.frz o (.lst xs))
theorem zlE{P:Program}{w:World}{K:PySem.W.Frag}{mg mb:Str->Option Value}{CX:CXT}{k:Nat}{fa a:Addr}{fd:FuncData}{x:Str}{sp:Sp}{s₁:Shared}{vs:List Value}{ns:List Int}
 (KX:K.In s₁.heap) (hns:s₁.heap.Ns mainGlobals mg) (hb:s₁.heap.Ns builtinsNs mb) (hbb:∀x:Str,x≠"__name__"->mb x=bootBuiltins x) (hlim:s₁.heap.NoLimit) (hg:s₁.gens= #[])
 (ha:s₁.heap.get? a=some {cls:= .type "list",data:= .seq vs.toArray}) (hi:IntsAre vs ns) (hl:ns.length<=sizeLine) (hr:Room k callerA)
 (F:∀base:Heap,K.In base->base.Ns mainGlobals mg->FnOk P w K mg base CX k fa fd [x] sp) (hbind:∀(s:Shared) (u:Value),BindsTo s fd ⟨[u],[]⟩ [(x,u)])
 (hsp:∀H:Hp,zoG H->SqL K H a (ns.map V.int)->sp [.ref a] H (λv _=>v= .bl true) λ_ _ _=>False)
 (hCX:∀H e s',CX [] H s₁ (λ_ _ _=>False) e s'->False):
 codeAny (model P w) callerA (.call (.ref fa) ⟨[.ref a],[]⟩) (λr s'=>r= .ok (.ret (.bool true))/\OldK s₁.heap s'.heap/\s'.os=s₁.os/\AllBare s'.gens) s₁:=by
 have rv:=zgq hi
 have lenV:=hi.length
 have core:∀H:Hp,zoG H->SqL K H a (ns.map V.int)->HOk P w H s₁.heap->(∀b,H b≠none->b=a)->(H a≠none->K.lookup a=none)->
  codeAny (model P w) callerA (.call (.ref fa) ⟨[.ref a],[]⟩) (λr s'=>r= .ok (.ret (.bool true))/\OldK s₁.heap s'.heap/\s'.os=s₁.os/\AllBare s'.gens) s₁:=by
  intro H hO hS hok hA hK
  have base_of:∀{b:Addr} {o:Obj},s₁.heap.get? b=some o->H b=none->(zgJ s₁.heap H).get? b=some o:=λe n=>zlz e n
  have noA:∀{b:Addr} {o:Obj} {es:Array DictEntry} {ep:Nat},s₁.heap.get? b=some o->o.data= .dict es ep->H b=none:=λ{b o es ep} e d=>by
   cases q:H b with
   |none=>rfl
   |some u=>
    have e':b=a:=hA b (by rw[q];simp)
    subst e'
    rw[ha] at e;cases e
    have d':Data.seq vs.toArray _=Data.dict es ep:=d
    cases d'
  have nsK:∀{b:Addr} {m:Str->Option Value},s₁.heap.Ns b m->(zgJ s₁.heap H).Ns b m:=λ{b m} ⟨o,es,ep,e,d,r⟩=>⟨o,es,ep,base_of e (noA e d),d,r⟩
  have hKb:K.In (zgJ s₁.heap H):=λb o e=>base_of (KX b o e) (by
   cases q:H b with
   |none=>rfl
   |some u=>
    have e':b=a:=hA b (by rw[q];simp)
    subst e'
    rw[hK (by rw[q];simp)] at e;cases e)
  have hM:Mod K mg (zgJ s₁.heap H):=⟨hKb,nsK hns,⟨mb,nsK hb,hbb⟩,let⟨mc,h1,h2⟩:=hlim;⟨mc,nsK h1,h2⟩⟩
  have e0:Env0 P w K mg (zgJ s₁.heap H) callerA [] s₁ H:=⟨rfl,hM,λb o e=>znM e,Nat.le_of_eq (zkL _ _),trivial,λb hb=>absurd (show b∈([]:List Addr)from hb) (by simp),hok, .of_eq hg⟩
  refine codeAny_mono ((F _ hKb (nsK hns)).run callerA [] s₁ H ⟨[.ref a],[]⟩ [.ref a] [.ref a] _ _ hr e0 (hbind s₁ (.ref a)) (.cons rfl .nil) (hsp H hO hS)) λr s' h=>?_
  cases r with
  |error e=>exact (hCX H e s' h).elim
  |ok fl=>
   cases fl with
   |next=>exact False.elim h
   |brk=>exact False.elim h
   |cont=>exact False.elim h
   |ret u=>
    obtain⟨v,H',os,bare,un,hok',r',q⟩:=h
    have q':v= .bl true:=q
    subst q'
    obtain rfl:u=Value.bool true:=r'
    refine⟨rfl,OldK.of_keep λb o e=>?_,os,bare⟩
    cases q:H b with
    |none=>exact un.keep b o e q (by intro z;exact absurd (show b∈([]:List Addr)from z) (by simp)) (by simp)
    |some u=>
     rcases hO b with z|⟨ob,xs,z⟩
     ·rw[q] at z;cases z
     ·have z2:=un.frzs b ob _ z
      obtain⟨e1,_⟩:=hok b _ z
      obtain⟨e2,_⟩:=hok' b _ z2
      rw[e] at e1;cases e1
      exact e2
 cases hk:K.lookup a with
 |some o=>
  have e:=KX a o hk
  rw[ha] at e
  cases e
  refine core (λ_=>none) (λ_=> .inl rfl) (.inr ⟨_,vs.toArray,_,hk,rfl,rfl,rfl,by rw[List.size_toArray,lenV];exact hl,by simpa using rv⟩) (λb u z=>by have z':(none:Option HO)=some u:=z;cases z') (λb z=>absurd rfl z) λz=>absurd rfl z
 |none=>
  refine core (λb=>if b=a then some (.frz {cls:= .type "list",data:= .seq vs.toArray} (.lst (ns.map V.int)))else none) (λb=>?_) (.inl (.inr ⟨{cls:= .type "list",data:= .seq vs.toArray},if_pos rfl⟩)) (λb u z=>?_) (λb z=>?_) λ_=>hk
  ·by_cases hb:b=a
   ·exact .inr ⟨_,_,if_pos hb⟩
   ·exact .inl (if_neg hb)
  ·by_cases hb:b=a
   ·have z':=(if_pos hb).symm.trans z
    cases z'
    subst hb
    exact⟨ha,by rw[List.length_map];exact hl,vs,_,rv,ha⟩
   ·have z':=(if_neg hb).symm.trans z
    cases z'
  ·by_cases hb:b=a
   ·exact hb
   ·exact absurd (if_neg hb) z
theorem walk_of{l:PySem.W.OpenLaw}{n k:Nat}{q:Program}{loose:List Str}{XP:(Str->Option Value)->Heap->Prop}{YP:World->Heap->Prop}{d:DefRec}{K:Params->PySem.W.Frag}{CX:World->CXT}{sp:World->Sp}{x:Str}
 (hn:l.most=some n) (hn2:n<=sizeLine) (hdf:d.params.defaults=[]) (hr:Room k callerA)
 (hY:∀(w:World) (h:Heap),YP w h->(K w.params).In h)
 (F:∀(w:World) (mg:Str->Option Value) (fa:Addr) (h:Heap),(K w.params).In h->h.Ns mainGlobals mg->mg d.name=some (.ref fa)->
   ∃fd:FuncData,(∀(s:Shared) (u:Value),BindsTo s fd ⟨[u],[]⟩ [(x,u)])/\
    ∀base:Heap,(K w.params).In base->base.Ns mainGlobals mg->FnOk l.prog w (K w.params) mg base (CX w) k fa fd [x] (sp w))
 (hsp:∀(w:World) (H:Hp) (a:Addr) (ns:List Int),ns.length<=n->zoG H->SqL (K w.params) H a (ns.map V.int)->sp w [.ref a] H (λv _=>v= .bl true) λ_ _ _=>False)
 (hCX:∀(w:World) (H:Hp) (s:Shared) (e:Value) (s':Shared),CX w [] H s (λ_ _ _=>False) e s'->False):
 PySem.W.WalkO q loose XP YP l.row.toRowW d [] (λf vs=>PySem.call f vs):=by
 refine Att.attach_call hn hdf λw s₀ s₁ mg mb fa o pm cd doc a vs ns G Y ho hd hcd hmg hobj hints hlen hg=>?_
 have KX:=hY w _ Y
 obtain⟨fd,hb,hF⟩:=F w mg fa _ KX G.T.g hmg
 exact zlE KX G.T.g G.T.b G.T.builtins G.T.nolimit hg hobj hints (Nat.le_trans hlen hn2) hr hF hb (λH hO hS=>hsp w H a ns hlen hO hS) λH e s'=>hCX w H s₁ e s'
noncomputable def zbn(s:Stmt)(j:Nat):Stmt:=match s with
 | .ClassDef _ _ _ body _ _ _ _ _ _ _=>body.getD j (.Pass ⟨0,0,0,0⟩)
 |_=> .Pass ⟨0,0,0,0⟩
noncomputable def zq(s:Stmt):Arguments:=match s with
 | .FunctionDef _ a _ _ _ _ _ _ _ _=>a
 |_=>{posonlyargs:=[],args:=[],vararg:=none,kwonlyargs:=[],kw_defaults:=[],kwarg:=none,defaults:=[]}
noncomputable def zp(s:Stmt):List Stmt:=match s with
 | .FunctionDef _ _ b _ _ _ _ _ _ _=>b
 |_=> []
noncomputable def zc(s:Stmt):Scope:=match s with
 | .FunctionDef _ _ _ _ _ _ sc _ _ _=>sc
 |_=>{kind:= .function,names:=[],isGenerator:=false,isCoroutine:=false}
noncomputable abbrev CX0:CXT:=λ_ _ _ _ _ _=>False
noncomputable abbrev E0:XK:=λ_ _ _=>False
theorem zo{X:Cx}:zb4 CX0 X E0:=λ_ _ _ _ _ _ _ h=>h.elim
structure Fun(K:PySem.W.Frag)(x qual:Str)(st:Stmt)(f:Addr)(fd:FuncData):Prop where
 ex:∃(oc:Value) (od:Option Addr) (kV doc pm:Value) (an:Option Addr) (cdv ct:Value) (osl:Array (Option Value)),
  fd=PySem.W.fnOf x qual (zq st) (zp st) (zc st) .none kV doc pm an cdv ct/\K.lookup f=some ⟨oc,od, .func fd,osl⟩/\PySem.W.codeIn K cdv qual=true
 kp:PySem.W.keepIn K (.ref f)=true
section
variable{P:Program}{w:World}{K:PySem.W.Frag}{mg:Str->Option Value}{base:Heap}
theorem Fun.ok{x qual:Str}{st:Stmt}{f:Addr}{fd:FuncData}{N ps:List Str}{k:Nat}{sp:Sp}(F:Fun K x qual st f fd)(S:FnScope N ps (zc st))(len:∀vs H Q E,sp vs H Q E->vs.length=ps.length)
 (hbody:∀(cdv:Value) (A:Around) (outer:List Env) (s:Shared) (H:Hp) (vs:List V) (Q:VK) (E:XK),Room k (A.deeper (envOfC qual (zc st) s.heap.objs.size f cdv))->sp vs H Q E->
   ∃t,PSs (zhG CX0 P w K mg base N qual (zc st) f cdv A outer s H E).nox (zp st) t/\t {nx:=λ_ H'=>Q .non H',rt:=Q} (zds N vs) H):FnOk P w K mg base CX0 (k+1) f fd ps sp:=by
 obtain⟨oc,od,kV,doc,pm,an,cdv,ct,osl,rfl,lk,hcd⟩:=F.ex
 refine zoe lk hcd S len λA outer s H vs Q E hr hsp=>?_
 obtain⟨t,h,q⟩:=hbody cdv A outer s H vs Q E hr hsp
 exact⟨t,h.nox,q⟩
theorem Fun.binds{x qual:Str}{st:Stmt}{f:Addr}{fd:FuncData}{ps:List Str}(F:Fun K x qual st f fd)
 (h:∀(kV doc pm:Value) (an:Option Addr) (cdv ct:Value) (us:List Value),us.length=ps.length->bindArgs (PySem.W.fnOf x qual (zq st) (zp st) (zc st) .none kV doc pm an cdv ct) ⟨us,[]⟩=pure (ps.zip us)):Binds K fd ps []:=by
 obtain⟨oc,od,kV,doc,pm,an,cdv,ct,osl,rfl,lk,hcd⟩:=F.ex
 exact .all (h kV doc pm an cdv ct)
theorem zy{x qual:Str}{st:Stmt}{f:Addr}{oc:Value}{od an:Option Addr}{osl:Array (Option Value)}{kV doc pm cdv ct:Value}(l:K.lookup f=some ⟨oc,od, .func (PySem.W.fnOf x qual (zq st) (zp st) (zc st) .none kV doc pm an cdv ct),osl⟩)
 (c:PySem.W.codeIn K cdv qual=true) (k:PySem.W.keepIn K (.ref f)=true):Fun K x qual st f (PySem.W.fnOf x qual (zq st) (zp st) (zc st) .none kV doc pm an cdv ct):=⟨⟨oc,od,kV,doc,pm,an,cdv,ct,osl,rfl,l,c⟩,k⟩
end
theorem zm{n:Nat}(h:n<=1000):n<sizeLine:=Nat.lt_of_le_of_lt h (by decide)
section
variable{X:Cx}
end
theorem zcn{c A B:Prop}[Decidable c](h1:c->A)(h2:¬c->B):if c then A else B:=by
 by_cases h:c
 ·rw[if_pos h]
  exact h1 h
 ·rw[if_neg h]
  exact h2 h
def Same(H H':Hp):Prop:=∀b o,H b=some o->H' b=some o
theorem Same.refl(H:Hp):Same H H:=λ_ _ h=>h
theorem Same.trans{H H1 H2:Hp}(a:Same H H1)(b:Same H1 H2):Same H H2:=λc o h=>b c o (a c o h)
theorem Same.free{H H':Hp}(e:Same H H'){l:Addr}(h:H' l=Option.none):H l=Option.none:=by
 cases q:H l with
 |none=>rfl
 |some o=>
  rw[e l o q] at h
  cases h
theorem Same.seq{K:PySem.W.Frag}{H H':Hp}{a:Addr}{xs:List V}(e:Same H H')(h:SqL K H a xs):SqL K H' a xs:=by
 rcases h with(h|⟨o,h⟩)|h
 ·exact .inl (.inl (e _ _ h))
 ·exact .inl (.inr ⟨o,e _ _ h⟩)
 ·exact .inr h
end L2
set_option maxHeartbeats 4000000
namespace L2
open PySem PySem.Spec PyProof.Rows
noncomputable def zS(X:Cx)(N':List Str)(scope:Scope)(cl:List (Str×Addr))(C:Addr)(s₀:Shared)(H₀:Hp)(fp:List Addr):Cx:=
 {prog:=X.prog,w:=X.w,K:=X.K,mg:=X.mg,base:=X.base,A:=X.A,N:=N',s₀:=s₀,H₀:=H₀,env:=compEnvC scope cl C X.env,outer:=X.stack,stack:=X.stack,ex:=fp,fn:=λ_=>false,
  calm:=X.calm,pn:=[],xe:=λ_ _=>False}
structure CompOk(N:List Str)(osc:Scope)(N':List Str)(src:List (Option Nat))(scope:Scope):Prop where
 kind:scope.kind= .function
 nocell:∀y∈scope.names,y.2≠ .cell
 loc:∀y∈scope.names,y.2= .local->scope.names.lookup y.1=some .local
 frees:∀y∈scope.names,y.2= .free->osc.names.lookup y.1=some .cell\/osc.names.lookup y.1=some .free
 nd:N'.Nodup
 len:src.length=N'.length
 src:∀q∈src.zip N',∀j∈q.1.toList,N[j]?=some q.2/\scope.names.lookup q.2=some .free
theorem zdw{env:Env}:∀(l:List (Str×NameKind)) (acc:List (Str×Addr)),(∀x c,acc.lookup x=some c->env.cells.lookup x=some c)->(∀y∈l,y.2= .free->∃c,env.cells.lookup y.1=some c)->
 ∃cl,(forIn l acc λ(x:Str×NameKind) (r:List (Str×Addr))=>(if(x.2==NameKind.free)=true then(cellOf env x.1>>=λa=>pure (ForInStep.yield ((x.1,a)::r)))else pure (ForInStep.yield r):Sem (ForInStep (List (Str×Addr)))))=pure cl/\
  (∀x c,cl.lookup x=some c->env.cells.lookup x=some c)/\(∀y∈l,y.2= .free->∃c,cl.lookup y.1=some c)/\(∀x c,acc.lookup x=some c->∃d,cl.lookup x=some d)
 |[],acc,h,_=>⟨acc,rfl,h,λ_ z=>(nomatch z),λx c e=>⟨c,e⟩⟩
 |(n,k)::l,acc,h,hf=>by
  by_cases hk:k= .free
  ·subst hk
   obtain⟨c,hc⟩:=hf (n, .free) List.mem_cons_self rfl
   have hacc:∀x d,((n,c)::acc).lookup x=some d->env.cells.lookup x=some d:=λx d e=>by
    rw[List.lookup_cons] at e
    cases hx:x==n with
    |true=>
     rw[hx] at e
     have e1:x=n:=by simpa using hx
     have e2:c=d:=by simpa using e
     rw[e1,←e2];exact hc
    |false=>
     rw[hx] at e
     exact h x d e
   obtain⟨cl,e1,e2,e3,e4⟩:=zdw l ((n,c)::acc) hacc λy hy=>hf y (List.mem_cons_of_mem _ hy)
   refine⟨cl,?_,e2,λy hy hyf=>?_,λx d e=>?_⟩
   ·rw[List.forIn_cons]
    have:cellOf env n=pure c:=by unfold cellOf;rw[hc]
    simp only[beq_self_eq_true,if_true,this,pure_bind]
    exact e1
   ·rcases List.mem_cons.mp hy with rfl|hy
    ·exact e4 n c (by simp)
    ·exact e3 y hy hyf
   ·by_cases hx:x=n
    ·subst hx;exact e4 x c (by simp)
    ·have hb:(x==n)=false:=by simpa using hx
     exact e4 x d (by rw[List.lookup_cons,hb];exact e)
  ·obtain ⟨cl,e1,e2,e3,e4⟩:=zdw l acc h λy hy=>hf y (List.mem_cons_of_mem _ hy)
   refine⟨cl,?_,e2,λy hy hyf=>?_,e4⟩
   ·rw[List.forIn_cons]
    have hb:(k==NameKind.free)=false:=by simpa using hk
    simp only[hb,Bool.false_eq_true,if_false,pure_bind]
    exact e1
   ·rcases List.mem_cons.mp hy with rfl|hy
    ·exact absurd hyf hk
    ·exact e3 y hy hyf
theorem zfC{scope:Scope}{env:Env}(hf:∀y∈scope.names,y.2= .free->∃c,env.cells.lookup y.1=some c):
 ∃cl,closureFor scope env=pure cl/\(∀x c,cl.lookup x=some c->env.cells.lookup x=some c)/\∀y∈scope.names,y.2= .free->∃c,cl.lookup y.1=some c:=by
 obtain⟨cl,e1,e2,e3,_⟩:=zdw (env:=env) scope.names [] (λ_ _ z=>by simp at z) hf
 refine⟨cl,?_,e2,e3⟩
 unfold closureFor
 refine Eq.trans ?_ (congrArg (λt=>t>>=λc=>(pure c:Sem (List (Str×Addr)))) e1)
 first
  |rfl
  |(congr 1)
theorem zhc{scope:Scope}{env:Env}:∀{x:Str},(relabel scope env).names.lookup x=some .cell\/(relabel scope env).names.lookup x=some .free->(∀y∈scope.names,y.2≠ .cell)->(x,NameKind.free)∈scope.names:=by
 intro x h hc
 have key:∀(l:List (Str×NameKind)),(∀y∈l,y.2≠ .cell)->((l.map λ(n,k)=>if (k==NameKind.free&&env.scope.kind== .function&&env.kindOf n==some .cell)then(n,NameKind.cell)else(n,k)).lookup x=some .cell\/
  (l.map λ(n,k)=>if (k==NameKind.free&&env.scope.kind== .function&&env.kindOf n==some .cell)then(n,NameKind.cell)else(n,k)).lookup x=some .free)->(x,NameKind.free)∈l:=by
  intro l
  induction l with
  |nil=>intro _ h;simp at h
  |cons y l ih=>
   obtain⟨n,k⟩:=y
   intro hc h
   have hc':∀y∈l,y.2≠ .cell:=λy hy=>hc y (List.mem_cons_of_mem _ hy)
   have hk:k≠ .cell:=hc (n,k) List.mem_cons_self
   rw[List.map_cons] at h
   by_cases hx:x=n
   ·subst hx
    by_cases hf:k= .free
    ·subst hf;exact List.mem_cons_self
    ·exfalso
     have hb:(k==NameKind.free)=false:=by simpa using hf
     simp only[hb,Bool.false_and,Bool.false_eq_true,if_false,List.lookup_cons,beq_self_eq_true] at h
     rcases h with h|h
     ·exact hk (Option.some.inj h)
     ·exact hf (Option.some.inj h)
   ·refine List.mem_cons_of_mem _ (ih hc' ?_)
    have hb:(x==n)=false:=by simpa using hx
    by_cases hq:(k==NameKind.free&&env.scope.kind== .function&&env.kindOf n==some .cell)=true
    ·simp only[hq,if_true,List.lookup_cons,hb] at h
     exact h
    ·simp only[hq,Bool.false_eq_true,if_false,List.lookup_cons,hb] at h
     exact h
 exact key _ hc h
theorem zgM{scope:Scope}{env:Env}{x:Str}(h:scope.names.lookup x=some .free):(relabel scope env).names.lookup x=some .cell\/(relabel scope env).names.lookup x=some .free:=by
 have key:∀(l:List (Str×NameKind)),l.lookup x=some .free->((l.map λ(n,k)=>if (k==NameKind.free&&env.scope.kind== .function&&env.kindOf n==some .cell)then(n,NameKind.cell)else(n,k)).lookup x=some .cell\/
  (l.map λ(n,k)=>if (k==NameKind.free&&env.scope.kind== .function&&env.kindOf n==some .cell)then(n,NameKind.cell)else(n,k)).lookup x=some .free):=by
  intro l
  induction l with
  |nil=>intro h;simp at h
  |cons y l ih=>
   obtain⟨n,k⟩:=y
   intro h
   rw[List.map_cons]
   rw[List.lookup_cons] at h
   cases hx:x==n with
   |true=>
    rw[hx] at h
    have hk:k= .free:=Option.some.inj h
    subst hk
    by_cases hq:(NameKind.free==NameKind.free&&env.scope.kind== .function&&env.kindOf n==some .cell)=true
    ·simp only[hq,if_true,List.lookup_cons,hx];exact .inl trivial
    ·simp only[hq,Bool.false_eq_true,if_false,List.lookup_cons,hx];exact .inr trivial
   |false=>
    rw[hx] at h
    by_cases hq:(k==NameKind.free&&env.scope.kind== .function&&env.kindOf n==some .cell)=true
    ·simp only[hq,if_true,List.lookup_cons,hx];exact ih h
    ·simp only[hq,Bool.false_eq_true,if_false,List.lookup_cons,hx];exact ih h
 exact key _ h
noncomputable def zfV(src:List (Option Nat))(σ:St):St:=src.map λo=>o.bind λj=>(σ[j]?).join
section
variable{X:Cx}{pins:List (Addr×Obj)}{σ:St}{H:Hp}{s:Shared}{N':List Str}{src:List (Option Nat)}{scope osc:Scope}{cl:List (Str×Addr)}{fp:List Addr}
theorem zft{h₁:Heap}{tk:Nat}(I:Inv X pins σ H s)(hf:∀b∈fp,zeh X pins H b)(hlt:∀b∈fp,b<s.heap.objs.size)(ok:CompOk X.N osc N' src scope)(hsc:X.env.scope=osc)
 (c1:∀x c,cl.lookup x=some c->X.env.cells.lookup x=some c) (c2:∀y∈scope.names,y.2= .free->∃c,cl.lookup y.1=some c)
 (hn:h₁.Ns s.heap.objs.size λ_=>none) (hk:∀b o,s.heap.get? b=some o->h₁.get? b=some o):
 Inv (zS X N' scope cl s.heap.objs.size s H fp) [] (zfV src σ) H {s with heap:=h₁,toks:=tk}:=by
 have hkind:(relabel scope X.env).kind= .function:=ok.kind
 refine⟨⟨I.ok.mod,hkind,I.ok.glob,I.ok.blt,Nat.le_refl _,λx y c h1 h2=>I.ok.inj x y c (c1 x c h1) (c1 y c h2),λx hx=>?_,λx c z _=>(by cases z),I.ok.hd,I.ok.frames, .inl rfl,λb hb=>?_,I.bs,Nat.le_trans I.ok.bsz I.sz,λb o e hb=>?_,λb hb z=>?_,I.stack,I.stkFree⟩,
  rfl,I.bare,Un.kept hk,⟨_,hn,λi x v h1 h2 h3=>?_⟩,λx c e=>?_,I.hok.fresh (Nat.le_refl _),λx c e=>I.freeC x c (c1 x c e),λp hp=>absurd (show p∈([]:List (Addr×Obj))from hp) (by simp),I.hok.kept hk,?_⟩
 ·exact c2 _ (zhc (env:=X.env) (scope:=scope) (x:=x) hx ok.nocell) rfl
 ·obtain ⟨f0,f1,f2,f3,f4,f5⟩:=hf b hb
  exact⟨λz=>absurd (hlt b hb) (by rw[z];exact Nat.lt_irrefl _),λx c e=>f4 x c (c1 x c e)⟩
 ·obtain ⟨f0,f1,f2,f3,f4,f5⟩:=hf b hb
  rcases f3 with z|z
  ·exact I.ok.noex b o e z
  ·exact absurd (Nat.lt_of_lt_of_le (Heap.lt_size e) (Nat.le_trans I.ok.bsz z)) (Nat.lt_irrefl _)
 ·obtain ⟨f0,f1,f2,f3,f4,f5⟩:=hf b hb
  rcases List.mem_cons.mp (I.stkSub b z)with q|q
  ·exact f1 q
  ·exact f2 q
 ·
  have hi:∃j,src[i]?=some (some j)/\σ[j]?=some (some v):=by
   unfold zfV at h2
   rw[List.getElem?_map] at h2
   cases e:src[i]? with
   |none=>rw[e] at h2;cases h2
   |some o=>
    rw[e] at h2
    cases o with
    |none=>cases h2
    |some j=>
     refine⟨j,rfl,?_⟩
     have h2':(σ[j]?).join=some v:=Option.some.inj h2
     cases e2:σ[j]? with
     |none=>rw[e2] at h2';cases h2'
     |some w=>rw[e2] at h2';exact congrArg some h2'
  obtain⟨j,e1,e2⟩:=hi
  have hz:(some j,x)∈src.zip N':=by
   refine List.mem_iff_getElem?.mpr ⟨i,?_⟩
   rw[List.getElem?_zip_eq_some]
   exact⟨e1,h1⟩
  obtain⟨q1,q2⟩:=ok.src _ hz j (by simp)
  have hfr:=PySem.mem_of_lookup q2
  have hk0:=ok.frees _ hfr rfl
  rw[←hsc] at hk0
  obtain⟨m,hns,hl⟩:=I.loc
  obtain⟨u,r,l⟩:=hl j x v q1 e2 (hk0.elim (λz=> .inr (.inl z)) λz=> .inr (.inr z))
  refine⟨u,r,?_⟩
  rcases l with⟨l1,_⟩|⟨_,c,l2,l3⟩
  ·exfalso
   have l1':X.env.scope.names.lookup x=some .local:=l1
   rcases hk0 with z|z
   ·rw[l1'] at z;cases z
   ·rw[l1'] at z;cases z
  ·obtain ⟨d,hd⟩:=c2 _ hfr rfl
   have:d=c:=by
    have:=(c1 _ _ hd).symm.trans l2
    exact Option.some.inj this
   subst this
   obtain⟨o,ho,hod⟩:=l3
   exact .inr ⟨zgM q2,d,hd,o,hk _ _ ho,hod⟩
 ·obtain ⟨v,o,ho,hod⟩:=I.cell x c (c1 x c e)
  exact⟨v,o,hk _ _ ho,hod⟩
 ·show (zfV src σ).length=N'.length
  unfold zfV
  rw[List.length_map]
  exact ok.len
theorem zeY{C:Addr}{σ':St}{H':Hp}{s':Shared}{h':Heap}(I:Inv X pins σ H s)(hf:∀b∈fp,zeh X pins H b)(hC:s.heap.objs.size<=C)(J:Inv (zS X N' scope cl C s H fp) [] σ' H' s')(hs:Heap.SameBut C s'.heap h'):
 Inv X pins σ H' {s' with heap:=h'}:=by
 have nC:∀b o,s.heap.get? b=some o->b≠C:=λb o e z=>absurd (Nat.lt_of_lt_of_le (Heap.lt_size e) (by rw[z];exact hC)) (Nat.lt_irrefl _)
 have B:Un (frs X.stack) fp H H' s.heap s'.heap:=J.base
 refine I.call' (ch:=fp) J.os ⟨λb o e n hb hx=>(hs.2 b (nC b o e)).trans (B.keep b o e n hb hx),λb o e n hb hx=>?_,B.free,λb o e hx=>?_,B.tups,B.frzs,B.tbls⟩ (λb ob e=>?_) J.bare λb hb=>?_
 ·obtain ⟨sl,e1⟩:=B.slot b o e n hb hx
  exact⟨sl,(hs.2 b (nC b o e)).trans e1⟩
 ·obtain ⟨o',e1⟩:=B.there b o e hx
  exact⟨o',(hs.2 b (nC b o e)).trans e1⟩
 ·refine (J.hok b ob e).stay (λc w' hc q=>(hs.2 c ?_).trans q) (λ_ q=>q) λ_ _ q=>q
  have hfree:H' C=none:=J.free
  rintro rfl
  rcases hc with rfl|hc
  ·rw[hfree] at e;cases e
  ·rw[hfree] at hc;cases hc
 ·obtain ⟨f0,f1,f2,f3,f4,f5⟩:=hf b hb
  exact⟨f3,f1,f4,f5⟩
end
noncomputable def zjf(ifs:List Expr)(env:Env):Sem Bool:=forIn ifs true λc r=>if r=true then do let ok ←isTrue c env (eval c env);pure (ForInStep.yield ok)else pure (ForInStep.yield r)
def PIf(X:Cx)(ifs:List Expr)(t:TT):Prop:=
 ∀(pins:List (Addr×Obj)) (s:Shared) (σ:St) (H:Hp) (Q:Bool->Hp->Prop),Inv X pins σ H s->t σ H Q->wpAny (model X.prog X.w) X.A (zjf ifs X.env) (TP X pins σ Q) X.xe s
noncomputable def zny:TT:=λ_ H Q=>Q true H
theorem znv{X:Cx}:PIf X [] zny:=λpins s σ H Q I h=>wpAny_tests_nil ⟨H,I,h⟩
theorem znH{X:Cx}{c:Expr}{t:TT}(h:PT X c t):PIf X [c] t:=λpins s σ H Q I hq=>wpAny_tests_one (h pins s σ H Q I hq)
theorem zdY{prog:Program}{w:World}{A:Around}{R:Result->Shared->Prop}{s:Shared}{elt target iter:Expr}{ifs:List Expr}{scope:Scope}{pos:Pos}{it acc:Value}{env:Env}(I:Nat->Shared->Prop)
 (turn:∀n s,I n s->wpAny (model prog w) A (pyNext it) (λr s1=>match r with
   |none=>R (.ok .next) s1
   |some v=>wpAny (model prog w) A (letOwnedTupleGo target it v) (λ_ s1'=>wpAny (model prog w) A (assign target env v) (λ_ s2=>wpAny (model prog w) A (zjf ifs env) (λok s3=>
     if ok=true then wpAny (model prog w) A (eval elt env) (λx s4=>wpAny (model prog w) A (call (.builtin "list.append") [acc,x]) (λ_ s5=>∃m,m<n/\I m s5) (λ_ _=>False) s4) (λ_ _=>False) s3
     else∃m,m<n/\I m s3) (λ_ _=>False) s2) (λ_ _=>False) s1') (λ_ _=>False) s1) (λ_ _=>False) s)
 (n:Nat) (h:I n s):codeAny (model prog w) A (.compLoop (.ListComp elt [⟨target,iter,ifs,0⟩] scope pos) 0 it acc env) R s:=by
 have no:∀{E:Value->Shared->Prop} (e:Value) (s:Shared),(λ(_:Value) (_:Shared)=>False) e s->E e s:=λ_ _ z=>False.elim z
 refine codeAny_loop rfl I (λn s hI=>?_) n h
 show wpAny _ A ((compTurn (.ListComp elt [⟨target,iter,ifs,0⟩] scope pos) 0 it acc env).onRaise (λx=>do noteFrame x env;theTreesLotGoes x)) _ _ s
 refine wpAny_noted ?_
 rw[compTurn_list]
 refine wpAny_bind (wpAny_standAt (wpAny_bind (wpAny_mono (turn n s hI) (λr s₁ h₁=>?_) no)))
 cases r with
 |none=>exact wpAny_pure h₁
 |some v=>
  refine wpAny_bind (wpAny_mono h₁ (λ_ s1' h1'=>?_) no)
  refine wpAny_bind (wpAny_mono h1' (λ_ s₂ h₂=>wpAny_bind (wpAny_mono h₂ (λok s₃ h₃=>?_) no)) no)
  cases ok with
  |false=>exact wpAny_pure ⟨rfl,h₃⟩
  |true=>
   exact wpAny_bind (wpAny_bind (wpAny_mono h₃ (λx s₄ h₄=>wpAny_bind (wpAny_mono h₄ (λ_ s₅ h₅=>wpAny_pure (wpAny_pure ⟨rfl,h₅⟩)) no)) no))
def zef(g:TG)(tc:TT)(te:TE)(src:List (Option Nat))(σ:St)(Q:VK)(J:It)(H1:Hp):Prop:=∀l,H1 l=none->
 ∃W:Nat->Nat->List V->St->Hp->Prop,(∃m,W 0 m [] (zfV src σ) (upd H1 l (.lst [])))/\∀i m ys σ' H',W i m ys σ' H'->H' l=some (.lst ys)->
  (J.stop i H'/\Q (.ref l) H')\/(J.go i H'/\∃N:List V->St->Hp->Prop,(∀zs σ2 H2,N zs σ2 H2->∃m',m'<m/\W (i+1) m' zs σ2 H2)/\∀x H2,J.yld i H' x H2->g x σ' H2 λσ2 H3=>tc σ2 H3 λb H4=>
    if b=true then te σ2 H4 λy H5=>H5 l=some (.lst ys)/\ys.length<sizeLine/\N (ys ++ [y]) σ2 (upd H5 l (.lst (ys ++ [y])))
    else H4 l=some (.lst ys)/\N ys σ2 H4)
noncomputable def zjh(wi:TI)(g:TG)(tc:TT)(te:TE)(src:List (Option Nat)):TE:=λσ H Q=>wi σ H (zef g tc te src σ Q)
def zn5(g:TG)(tb:TS)(D:Ends)(σ:St)(J:It)(H1:Hp):Prop:=∃W:Nat->Nat->St->Hp->Prop,(∃m,W 0 m σ H1)/\∀i m σ H,W i m σ H->
 (J.stop i H/\D.nx σ H)\/(J.go i H/\∃N:St->Hp->Prop,(∀σ' H',N σ' H'->∃m',m'<m/\W (i+1) m' σ' H')/\∀x H',J.yld i H x H'->g x σ H' λσ2 H2=>tb {D with nx:=N,ct:=N,bk:=D.nx} σ2 H2)
noncomputable def zoh(wi:TI)(g:TG)(tb:TS):TS:=λD σ H=>wi σ H (zn5 g tb D σ)
theorem znS{X:Cx}{tg iter:Expr}{body:List Stmt}{wi:TI}{g:TG}{tb:TS}{pos:Pos}(hp:PassesOwn (model X.prog X.w) X.A X.env X.xe)(hc:X.calm=true)(hi:PI X tg iter wi)(hg:PG X tg g)(hb:PSs X body tb)
 (hs:∀x,foldedSetIterable iter X.env x=pure x:=by intro _;rfl):PS X (.For tg iter body [] pos) (zoh wi g tb):=zos hp hc hi hg hb hs
section
variable{X:Cx}{elt tg iter:Expr}{ifs:List Expr}{scope osc:Scope}{pos:Pos}{N':List Str}{src:List (Option Nat)}{wi:TI}{g:TG}{tc:TT}{te:TE}
theorem zmU(ok:CompOk X.N osc N' src scope)(hsc:X.env.scope=osc)(hc:X.calm=true)(hi:PI X tg iter wi)
 (hg:∀cl C s₀ H₀ fp,PG (zS X N' scope cl C s₀ H₀ fp) tg g) (ht:∀cl C s₀ H₀ fp,PIf (zS X N' scope cl C s₀ H₀ fp) ifs tc) (he:∀cl C s₀ H₀ fp,PE (zS X N' scope cl C s₀ H₀ fp) elt te)
 (hs:∀x,foldedSetIterable iter X.env x=pure x:=by intro _;rfl):PE X (.ListComp elt [⟨tg,iter,ifs,0⟩] scope pos) (zjh wi g tc te src):=by
 intro pins s σ H Q I h
 obtain⟨cl,hcl,c1,c2⟩:=zfC (scope:=scope) (env:=X.env) λy hy hyf=>I.ok.has y.1 (by
  have z:=ok.frees y hy hyf
  rw[←hsc] at z
  exact z)
 rw[eval_ListComp]
 refine wpAny_comprehension_free (use:=none) rfl hs hcl ok.kind ok.loc (thn (hi pins s σ H _ I h) λv s1 h1=>thn h1 λitv s2 h2=>?_)
 obtain⟨it,fp,tn,J,H2,e,I2,T,st2,f2,q2⟩:=h2
 subst e
 have hlt2:∀b∈fp,b<s2.heap.objs.size:=λb hb=>by
  obtain⟨o,e,_⟩:=T.obj _ _ st2 b hb
  exact Heap.lt_size e
 refine wpAny_newObj_type ?_
 have hl:H2 s2.heap.objs.size=none:=I2.hok.fresh (Nat.le_refl _)
 have I3:Inv X pins σ (upd H2 s2.heap.objs.size (.lst [])) {s2 with heap:=s2.heap.push {cls:= .type "list",dict:=none,data:= .seq ([]:List Value).toArray}}:=
  I2.laid (t':=s2.toks) (λb u e=>Heap.get?_push_of_some _ e) (Nat.le_refl _) ⟨Nat.zero_le _,[],0, .nil,Heap.get?_push_size _ rfl⟩
 obtain⟨W,⟨m0,w0⟩,turn⟩:=q2 _ hl
 generalize hl2:s2.heap.objs.size=l at *
 generalize hs3:({s2 with heap:=s2.heap.push {cls:= .type "list",dict:=none,data:= .seq ([]:List Value).toArray}}:Shared)=s3 at *
 have f3:∀b∈fp,zeh X pins (upd H2 l (.lst [])) b:=λb hb=>⟨by rw[ze (Nat.ne_of_lt (hlt2 b hb))];exact(f2 b hb).1,(f2 b hb).2⟩
 have k3:∀b o,s2.heap.get? b=some o->s3.heap.get? b=some o:=λb o e=>by rw[←hs3];exact Heap.get?_push_of_some _ e
 have hlt3:∀b∈fp,b<s3.heap.objs.size:=λb hb=>by
  obtain⟨o,e,_⟩:=T.obj _ _ st2 b hb
  exact Heap.lt_size (k3 b o e)
 refine wpAny_newFunctionEnv ok.nocell (by intro y hy;simp at hy) (λh₁ hns₁ hsb₁=>?_) ok.kind
 have k4:∀b o,s3.heap.get? b=some o->h₁.get? b=some o:=λb o e=>(hsb₁.2 b (Nat.ne_of_lt (Heap.lt_size e))).trans (Heap.get?_push_of_some _ e)
 have J0:=zft (tk:=s3.toks+([]:List (Str×Value)).length) I3 f3 hlt3 ok hsc c1 c2 hns₁ k4
 have st4:tn 0 h₁:=T.keep _ _ _ st2 λb hb o e=>k4 b o (k3 b o e)
 generalize hC:s3.heap.objs.size=C at *
 have stat:∀{H':Hp},(∀b∈fp,H' b=none)->∀b∈fp,zeh (zS X N' scope cl C s3 (upd H2 l (.lst [])) fp) [] H' b:=λ{H'} hn b hb=>
  ⟨hn b hb,(J0.ok.exf b hb).1,J0.ok.exfs b hb, .inl hb,(J0.ok.exf b hb).2,λp hp=>absurd (show p∈([]:List (Addr×Obj))from hp) (by simp)⟩
 have loop:codeAny (model X.prog X.w) X.A (.compLoop (.ListComp elt [⟨tg,iter,ifs,0⟩] scope pos) 0 (.ref it) (.ref l) (compEnvC scope cl C X.env))
  (compPost (model X.prog X.w) X.A X.xe none (EP X pins σ Q) (.ref l) C) {s3 with heap:=h₁,toks:=s3.toks+([]:List (Str×Value)).length}:=by
  refine zdY (λn s'=>∃i ys σ' H',Inv (zS X N' scope cl C s3 (upd H2 l (.lst [])) fp) [] σ' H' s'/\tn i s'.heap/\(∀b∈fp,H' b=none)/\H' l=some (.lst ys)/\W i n ys σ' H') ?_ m0
   ⟨0,[],_,_,J0,st4,λb hb=>(f3 b hb).1,zb,w0⟩
  rintro n s5 ⟨i,ys,σ5,H5,I5,st5,fr5,hl5,w5⟩
  rcases turn i n ys σ5 H5 w5 hl5 with⟨stop,qn⟩|⟨go,N,hN,step⟩
  ·refine thn (T.done (zS X N' scope cl C s3 (upd H2 l (.lst [])) fp) rfl rfl rfl hc i [] s5 σ5 H5 (λ_ _=>False) I5 (stat fr5) st5 stop) λr s6 ⟨hr,I6⟩=>?_
   subst hr
   obtain⟨m,hn,_⟩:=I6.loc
   exact⟨m,hn,λh' hsb=>⟨.ref l,H5,zeY I3 f3 (by rw[←hC];exact Nat.le_refl _) I6 hsb,rfl,qn⟩⟩
  ·refine thn (T.item (zS X N' scope cl C s3 (upd H2 l (.lst [])) fp) rfl rfl rfl hc i [] s5 σ5 H5 (λ_ _=>False) I5 (stat fr5) st5 go) λr s6 ⟨u,hr,h6⟩=>?_
   subst hr
   refine thn h6 λ_ s7 ⟨x,H7,I7,r7,y7,st7,fr7⟩=>?_
   have I7':=I7.pinned (stat fr7) (T.obj _ _ st7)
   refine thn (hg cl C s3 _ fp _ s7 σ5 H7 x u _ I7' r7 (step x H7 y7)) λ_ s8 ⟨σ8,H8,I8,q8⟩=>?_
   refine thn (ht cl C s3 _ fp _ s8 σ8 H8 _ I8 q8) λb s9 ⟨H9,I9,q9⟩=>?_
   have back:∀{s':Shared} {H':Hp},Inv (zS X N' scope cl C s3 (upd H2 l (.lst [])) fp) ([]++zeb fp s7.heap) σ8 H' s'->tn (i+1) s'.heap/\∀b∈fp,H' b=none:=λ{s' H'} I'=>by
    refine⟨T.keep _ _ _ st7 λb hb o e=>(I'.pin (b,o) (List.mem_append_right _ (List.mem_append_right _ (za7 hb e)))).1,λb hb=>?_⟩
    obtain⟨o,e,d⟩:=T.obj _ _ st7 b hb
    exact(I'.pin (b,o) (List.mem_append_right _ (List.mem_append_right _ (za7 hb e)))).2.1
   cases b with
   |false=>
    obtain⟨hl9,n9⟩:=q9
    obtain⟨m',hm,w9⟩:=hN _ _ _ n9
    obtain⟨t9,fr9⟩:=back I9
    exact⟨m',hm,i+1,ys,σ8,H9,I9.unpinned,t9,fr9,hl9,w9⟩
   |true=>
    refine thn (he cl C s3 _ fp _ s9 σ8 H9 _ I9 q9) λxv s10 ⟨y,H10,I10,r10,hl10,hz,n10⟩=>?_
    obtain⟨m',hm,w10⟩:=hN _ _ _ n10
    refine thn (zaS (X:=zS X N' scope cl C s3 (upd H2 l (.lst [])) fp) _ s10 σ8 H10 (.ref l) [y] (.ref l) [xv] (λv H'=>H'=upd H10 l (.lst (ys ++ [y]))) I10 rfl (.cons r10 .nil) ⟨l,ys,y,rfl,rfl,hl10,hz,rfl⟩) λ_ s11 ⟨_,H11,I11,_,e11⟩=>?_
    subst e11
    obtain⟨t11,fr11⟩:=back I11
    exact⟨m',hm,i+1,ys ++ [y],σ8,_,I11.unpinned,t11,fr11,zb,w10⟩
 exact codeAny_compStart_list loop (T.self _ 0 _ _ _ st4 loop)
end
section
variable{κ:Type}[DecidableEq κ]
noncomputable def z3(kvs:List (κ×V))(k:κ):Option V:=(kvs.find? λkv=>decide (kv.1=k)).map (·.2)
noncomputable def z6(kvs:List (κ×V))(k:κ)(v:V):List (κ×V):=
 if(kvs.any λkv=>decide (kv.1=k))=true then kvs.map (λkv=>if kv.1=k then(kv.1,v)else kv)else kvs ++ [(k,v)]
theorem zah{p:κ×V}{r:List (κ×V)}{k:κ}(e:p.1=k):z3 (p::r) k=some p.2:=by simp[z3,List.find?_cons,e]
theorem zae{p:κ×V}{r:List (κ×V)}{k:κ}(e:¬p.1=k):z3 (p::r) k=z3 r k:=by simp[z3,List.find?_cons,e]
theorem zcz(k:κ):∀kvs:List (κ×V),(kvs.any λkv=>decide (kv.1=k))=(z3 kvs k).isSome
 |[]=>rfl
 |p::r=>by
  rw[List.any_cons]
  by_cases e:p.1=k
  ·simp only[zah e,decide_eq_true e,Bool.true_or,Option.isSome_some]
  ·rw[zae e,decide_eq_false e,Bool.false_or];exact zcz k r
theorem zhM(k j:κ)(y:V):∀kvs:List (κ×V),z3 (kvs.map λkv=>if kv.1=k then(kv.1,y)else kv) j=(z3 kvs j).map λx=>if j=k then y else x
 |[]=>rfl
 |p::r=>by
  have ih:=zhM k j y r
  rw[List.map_cons]
  by_cases h:p.1=k
  ·rw[if_pos h]
   by_cases e:p.1=j
   ·rw[zah (p:=(p.1,y)) e,zah e,Option.map_some,if_pos (e.symm.trans h)]
   ·rw[zae (p:=(p.1,y)) e,zae e,ih]
  ·rw[if_neg h]
   by_cases e:p.1=j
   ·rw[zah (p:=p) e,zah e,Option.map_some,if_neg (λz=>h (e.trans z))]
   ·rw[zae (p:=p) e,zae e,ih]
theorem zgx(k j:κ)(y:V):∀kvs:List (κ×V),z3 kvs k=none->z3 (kvs ++ [(k,y)]) j=if j=k then some y else z3 kvs j
 |[],_=>by
  by_cases e:k=j
  ·rw[if_pos e.symm];exact zah (p:=(k,y)) e
  ·rw[if_neg (λz=>e z.symm)];exact zae (p:=(k,y)) e
 |p::r,hn=>by
  rw[List.cons_append]
  have hk:¬p.1=k:=λz=>by rw[zah z] at hn;cases hn
  rw[zae hk] at hn
  have ih:=zgx k j y r hn
  by_cases e:p.1=j
  ·rw[zah e,zah e,if_neg (λz=>hk (e.trans z))]
  ·rw[zae e,zae e,ih]
theorem zid(kvs:List (κ×V))(k j:κ)(y:V):z3 (z6 kvs k y) j=if j=k then some y else z3 kvs j:=by
 unfold z6
 by_cases a:(kvs.any λkv=>decide (kv.1=k))=true
 ·rw[if_pos a,zhM]
  rw[zcz] at a
  by_cases e:j=k
  ·obtain ⟨x,hx⟩:=Option.isSome_iff_exists.mp a
   rw[if_pos e,e,hx,Option.map_some,if_pos rfl]
  ·rw[if_neg e]
   cases z3 kvs j with
   |none=>rfl
   |some x=>rw[Option.map_some,if_neg e]
 ·rw[if_neg a]
  refine zgx k j y kvs ?_
  rw[zcz] at a
  cases q:z3 kvs k with
  |none=>rfl
  |some x=>rw[q] at a;exact(a rfl).elim
theorem zbG(kvs:List (κ×V))(k:κ)(v:V):(z6 kvs k v).length<=kvs.length+1:=by
 unfold z6
 split
 ·rw[List.length_map];omega
 ·rw[List.length_append,List.length_cons,List.length_nil];omega
theorem RelO.isSome_eq{o:Option V}{u:Option Value}(r:RelO o u):o.isSome=u.isSome:=by
 cases o with
 |none=>cases u with
  |none=>rfl
  |some _=>exact (show False from r).elim
 |some _=>cases u with
  |none=>exact (show False from r).elim
  |some _=>rfl
theorem RelO.getD{o:Option V}{u:Option Value}{d:V}{d':Value}(r:RelO o u)(rd:RelV d d'):RelV (o.getD d) (u.getD d'):=by
 cases o with
 |none=>cases u with
  |none=>exact rd
  |some _=>exact (show False from r).elim
 |some _=>cases u with
  |none=>exact (show False from r).elim
  |some _=>exact r
theorem KV.val{kvs:List (κ×V)}{vs:List (κ×Value)}(r:KV kvs vs)(k:κ):RelO (z3 kvs k) (valueAt vs k):=by
 unfold KV at r
 induction r with
 |nil=>exact True.intro
 | @cons p q ps qs h t ih=>
   obtain⟨h1,h2⟩:=h
   by_cases e:p.1=k
   ·have e':q.1=k:=h1.symm.trans e
    have b:valueAt (q::qs) k=some q.2:=by simp[valueAt,List.find?_cons,e']
    rw[zah e,b];exact h2
   ·have e':¬q.1=k:=λz=>e (h1.trans z)
    have b:valueAt (q::qs) k=valueAt qs k:=by simp[valueAt,List.find?_cons,e']
    rw[zae e,b];exact ih
theorem KV.any{kvs:List (κ×V)}{vs:List (κ×Value)}(r:KV kvs vs)(k:κ):(kvs.any λkv=>decide (kv.1=k))=vs.any λkv=>decide (kv.1=k):=by
 unfold KV at r
 induction r with
 |nil=>rfl
 |cons h t ih=>rw[List.any_cons,List.any_cons,ih,h.1]
theorem KV.repl{kvs:List (κ×V)}{vs:List (κ×Value)}(r:KV kvs vs)(k:κ){y:V}{u:Value}(ry:RelV y u):
 KV (kvs.map λkv=>if kv.1=k then(kv.1,y)else kv) (vs.map λkv=>if kv.1=k then(kv.1,u)else kv):=by
 unfold KV at r⊢
 induction r with
 |nil=>exact .nil
 | @cons p q ps qs h t ih=>
   rw[List.map_cons,List.map_cons]
   refine .cons ?_ ih
   obtain⟨h1,h2⟩:=h
   by_cases e:p.1=k
   ·rw[if_pos e,if_pos (h1.symm.trans e)];exact⟨h1,ry⟩
   ·rw[if_neg e,if_neg (λz=>e (h1.trans z))];exact⟨h1,h2⟩
theorem KV.put{kvs:List (κ×V)}{vs:List (κ×Value)}(r:KV kvs vs)(k:κ){y:V}{u:Value}(ry:RelV y u):KV (z6 kvs k y) (stored vs k u):=by
 unfold z6 stored
 rw[r.any k]
 by_cases e:(vs.any λkv=>decide (kv.1=k))=true
 ·rw[if_pos e,if_pos e];exact r.repl k ry
 ·rw[if_neg e,if_neg e];exact Paired.snoc r ⟨rfl,ry⟩
theorem KV.length{kvs:List (κ×V)}{vs:List (κ×Value)}(r:KV kvs vs):kvs.length=vs.length:=Paired.length r
end
theorem zhN{P:Program}{w:World}{k:Key}{u:Value}(r:RelV (kV k) u):(zW P w).is k u=true:=by
 cases k with
 |inl i=>obtain ⟨t,e⟩:=(show∃t,u=Value.int i t from r);subst e;exact zhL P w i t
 |inr x=>obtain ⟨t,e⟩:=(show∃t,u=Value.str x t from r);subst e;exact zh7 P w x t
theorem zgc{P:Program}{w:World}:∀{ks:List Key} {us:List Value},Vals (ks.map kV) us->ItemsAre (zW P w) ks us
 |[],_,r=>by rw[List.map_nil] at r;cases r;exact .nil
 |k::ks,_,r=>by
  rw[List.map_cons] at r
  cases r with
  |cons h t=>exact .cons (zhN h) (zgc t)
abbrev KT(H:Hp):List (List Key×V)->List (List Key×Addr×Value)->Prop:=Paired λp q=>p.1=q.1/\H q.2.1=some (.tup (p.1.map kV))/\RelV p.2 q.2.2
theorem KT.val{H:Hp}{kvs:List (List Key×V)}{xs:List (List Key×Addr×Value)}(r:KT H kvs xs)(k:List Key):RelO (z3 kvs k) ((atKey xs k).map (·.2)):=by
 induction r with
 |nil=>exact True.intro
 | @cons p q ps qs h t ih=>
   obtain⟨h1,_,h2⟩:=h
   by_cases e:p.1=k
   ·have e':q.1=k:=h1.symm.trans e
    have b:atKey (q::qs) k=some q.2:=by simp[atKey,List.find?_cons,e']
    rw[zah e,b];exact h2
   ·have e':¬q.1=k:=λz=>e (h1.trans z)
    have b:atKey (q::qs) k=atKey qs k:=by simp[atKey,List.find?_cons,e']
    rw[zae e,b];exact ih
theorem KT.repl{H:Hp}{kvs:List (List Key×V)}{xs:List (List Key×Addr×Value)}(r:KT H kvs xs)(k:List Key){y:V}{u:Value}(ry:RelV y u):
 KT H (kvs.map λkv=>if kv.1=k then(kv.1,y)else kv) (xs.map (putAt k u)):=by
 induction r with
 |nil=>exact .nil
 | @cons p q ps qs h t ih=>
   rw[List.map_cons,List.map_cons]
   refine .cons ?_ ih
   obtain⟨h1,h2,h3⟩:=h
   unfold putAt
   by_cases e:p.1=k
   ·rw[if_pos e,if_pos (h1.symm.trans e)];exact⟨h1,h2,ry⟩
   ·rw[if_neg e,if_neg (λz=>e (h1.trans z))];exact⟨h1,h2,h3⟩
theorem KT.put{H:Hp}{kvs:List (List Key×V)}{xs:List (List Key×Addr×Value)}(r:KT H kvs xs)(k:List Key){b:Addr}{y:V}{u:Value}(hb:H b=some (.tup (k.map kV)))(ry:RelV y u):
 KT H (z6 kvs k y) (storedH xs k b u):=by
 have e:(kvs.any λkv=>decide (kv.1=k))=(atKey xs k).isSome:=by
  rw[zcz,(r.val k).isSome_eq,Option.isSome_map]
 unfold z6 storedH
 rw[e]
 by_cases q:(atKey xs k).isSome=true
 ·rw[if_pos q,if_pos q];exact r.repl k ry
 ·rw[if_neg q,if_neg q];exact Paired.snoc r ⟨rfl,hb,ry⟩
theorem KT.keeps{H H':Hp}{kvs:List (List Key×V)}{xs:List (List Key×Addr×Value)}(r:KT H kvs xs)(ht:∀b ys,H b=some (.tup ys)->H' b=some (.tup ys)):KT H' kvs xs:=
 Paired.mapP r λ_ _ z=>⟨z.1,ht _ _ z.2.1,z.2.2⟩
section
variable{P:Program}{w:World}{H:Hp}{h:Heap}{a:Addr}
theorem zoc{u:HO}(ok:HOk P w H h)(e:Rd H a u):ObjOk P w H h a u:=e.ok ok
theorem zf3{kvs:List (Key×V)}(ok:HOk P w H h)(e:Rd H a (.dK kvs)):kvs.length<=sizeLine/\(a==sysModules)=false/\∃vs,KV kvs vs/\h.DictOf (zW P w) a vs:=
 show ObjOk P w H h a (.dK kvs)from zoc ok e
theorem zjo{kvs:List (Key×V)}(ok:HOk P w H h)(e:H a=some (.dK kvs)):kvs.length<=sizeLine/\(a==sysModules)=false/\∃vs,KV kvs vs/\h.DictOf (zW P w) a vs:=zf3 ok (.inl e)
theorem zfA{ks:List Key}(ok:HOk P w H h)(e:H a=some (.tup (ks.map kV))):(tupleKind (zW P w)).is h ks a:=by
 obtain⟨_,its,r,⟨o,h1,h2,n,h3⟩,_⟩:=(show ObjOk P w H h a (.tup (ks.map kV))from ok a _ e)
 exact⟨o,its.toArray,n,h1,h2,h3,by simpa using zgc r⟩
theorem zgf{kvs:List (List Key×V)}(ok:HOk P w H h)(e:Rd H a (.dT kvs)):kvs.length<=sizeLine/\(a==sysModules)=false/\
 ∃xs,KT H kvs xs/\h.DictOfH (tupleKind (zW P w)) a xs:=by
 obtain⟨z,y,xs,r,o,es,ep,h1,h2,h3,h4,h5⟩:=(show ObjOk P w H h a (.dT kvs)from zoc ok e)
 refine⟨z,y,xs,r,o,es,ep,h1,h2,h3,h4,λx hx=>?_,h5⟩
 have all:∀{l:List (List Key×V)} {m:List (List Key×Addr×Value)},KT H l m->∀x∈m,(tupleKind (zW P w)).is h x.1 x.2.1:=by
  intro l m q
  induction q with
  |nil=>intro x hx;exact nomatch hx
  | @cons p q ps qs hq t ih=>
    intro x hx
    rcases List.mem_cons.mp hx with e|hx
    ·subst e
     exact zfA ok (by rw[←hq.1];exact hq.2.1)
    ·exact ih x hx
 exact all r x hx
theorem zp1{kvs:List (List Key×V)}(ok:HOk P w H h)(e:H a=some (.dT kvs)):kvs.length<=sizeLine/\(a==sysModules)=false/\
 ∃xs,KT H kvs xs/\h.DictOfH (tupleKind (zW P w)) a xs:=zgf ok (.inl e)
end
def DGet(H:Hp)(a:Addr)(y:V)(r:Option V):Prop:=
 (∃kvs k,Rd H a (.dK kvs)/\y=kV k/\r=z3 kvs k)\/∃kvs k b,Rd H a (.dT kvs)/\y= .ref b/\H b=some (.tup (k.map kV))/\r=z3 kvs k
def DPut(H:Hp)(a:Addr)(y v:V)(H':Hp):Prop:=
 (∃kvs k,H a=some (.dK kvs)/\y=kV k/\kvs.length<sizeLine/\H'=upd H a (.dK (z6 kvs k v)))\/
 ∃kvs k b,H a=some (.dT kvs)/\y= .ref b/\H b=some (.tup (k.map kV))/\kvs.length<sizeLine/\H'=upd H a (.dT (z6 kvs k v))
theorem DGet.k{H:Hp}{a:Addr}{kvs:List (Key×V)}{k:Key}(e:H a=some (.dK kvs)):DGet H a (kV k) (z3 kvs k):= .inl ⟨kvs,k, .inl e,rfl,rfl⟩
theorem DPut.t{H:Hp}{a b:Addr}{kvs:List (List Key×V)}{k:List Key}{v:V}(e:H a=some (.dT kvs))(eb:H b=some (.tup (k.map kV)))(hl:kvs.length<sizeLine):
 DPut H a (.ref b) v (upd H a (.dT (z6 kvs k v))):= .inr ⟨kvs,k,b,e,rfl,eb,hl,rfl⟩
section
variable{X:Cx}{pins:List (Addr×Obj)}{σ:St}{H:Hp}{s:Shared}{a:Addr}{y v:V}{u r:Value}{o:Option V}{A:Around}{E:Value->Shared->Prop}
theorem Inv.big(I:Inv X pins σ H s):sysModules<s.heap.objs.size:=by
 have h:mainGlobals<s.heap.objs.size:=(I.mod.glob.keeps I.bk).lt
 exact Nat.lt_trans (by decide) h
theorem zj0{Q:Value->Shared->Prop}(hu:A.units+1<cLine)(I:Inv X pins σ H s)(g:DGet H a y (some v))(ry:RelV y u)(h:∀w' s',Inv X pins σ H s'->RelV v w'->Q w' s'):
 wpAny (model X.prog X.w) A (getItem (.ref a) u) Q E s:=by
 rcases g with⟨kvs,k,e,ey,l⟩|⟨kvs,k,b,e,ey,eb,l⟩
 ·subst ey
  obtain⟨z,hd,vs,rel,dd⟩:=zf3 I.hok e
  obtain⟨w',hw,rw'⟩:=RelO.some_of (v:=v) (o:=valueAt vs k) (by rw[l];exact rel.val k)
  exact wpAny_getItem_of (zhN ry) dd.mapOf hw (h w' _ (I.tok _) rw')
 ·subst ey
  cases(show u=Value.ref b from ry)
  obtain⟨z,hd,xs,rel,dd⟩:=zgf I.hok e
  obtain⟨w',hw,rw'⟩:=RelO.some_of (v:=v) (o:=(atKey xs k).map (·.2)) (by rw[l];exact rel.val k)
  obtain⟨p,hp,hp2⟩:=Option.map_eq_some_iff.mp hw
  refine wpAny_getItem_heap (tupleKind_room_in1 hu) (zfA I.hok eb) dd hp ?_
  rw[hp2]
  exact h w' _ (I.tok _) rw'
theorem znm{Q:Value->Shared->Prop}(hu:A.units+1<cLine)(I:Inv X pins σ H s)(g:DGet H a y o)(ry:RelV y u)(h:∀s',Inv X pins σ H s'->Q (.bool (!o.isSome)) s'):
 wpAny (model X.prog X.w) A (compareOp .NotIn u (.ref a)) Q E s:=by
 rcases g with⟨kvs,k,e,ey,l⟩|⟨kvs,k,b,e,ey,eb,l⟩
 ·subst ey
  obtain⟨z,hd,vs,rel,dd⟩:=zf3 I.hok e
  refine wpAny_notIn_of (zhN ry) hd dd.mapOf ?_
  rw[←(rel.val k).isSome_eq,←l]
  exact h _ (I.tok _)
 ·subst ey
  cases(show u=Value.ref b from ry)
  obtain⟨z,hd,xs,rel,dd⟩:=zgf I.hok e
  refine wpAny_notIn_heap (tupleKind_room_in1 hu) (zfA I.hok eb) hd dd ?_
  have q:=(rel.val k).isSome_eq
  rw[Option.isSome_map] at q
  rw[←q,←l]
  exact h _ (I.tok _)
theorem zjV{h':Heap}{t':Nat}{ob:HO}(I:Inv X pins σ H s)(mu:Mut (H a))(hs:Heap.SameBut a s.heap h')(he:∃q,h'.get? a=some q)(new:ObjOk X.prog X.w (upd H a ob) h' a ob):
 Inv X pins σ (upd H a ob) {s with heap:=h',toks:=t'}:=
 I.write (x:=a) (e:=a) mu (.inl rfl) (λb q hb z=>(hs.2 b hb).trans z) he new
theorem zpj{P:Program}{w:World}{H':Hp}{h':Heap}{kvs:List (Key×V)}{vs:List (Key×Value)}(z:kvs.length<=sizeLine)(hd:(a==sysModules)=false)(rel:KV kvs vs)(dd:h'.DictOf (zW P w) a vs):
 ObjOk P w H' h' a (.dK kvs):=⟨z,hd,vs,rel,dd⟩
theorem zko{H':Hp}{Q:Unit->Shared->Prop}(hu:A.units+1<cLine)(I:Inv X pins σ H s)(g:DPut H a y v H')(ry:RelV y u)(rv:RelV v r)(h:∀s',Inv X pins σ H' s'->Q () s'):
 wpAny (model X.prog X.w) A (setItem (.ref a) u r) Q E s:=by
 rcases g with⟨kvs,k,e,ey,l,eH⟩|⟨kvs,k,b,e,ey,eb,l,eH⟩
 ·subst ey eH
  obtain⟨z,hd,vs,rel,dd⟩:=zjo I.hok e
  have hz:vs.length<=sizeLine:=by rw[←rel.length];exact z
  have hl:(z6 kvs k v).length<=sizeLine:=by have:=zbG kvs k v;omega
  refine wpAny_setItem_pairs (hsz:=hz) (zhN ry) dd λh' dd' hs=>h _ ?_
  have he:∃q,h'.get? a=some q:=let⟨q,_,_,hq,_⟩:=dd';⟨q,hq⟩
  exact zjV I (by rw[e];exact True.intro) hs he (zpj hl hd (rel.put k rv) dd')
 ·subst ey eH
  cases(show u=Value.ref b from ry)
  obtain⟨z,hd,xs,rel,dd⟩:=zp1 I.hok e
  have hz:xs.length<=sizeLine:=by rw[←Paired.length rel];exact z
  have hl:(z6 kvs k v).length<=sizeLine:=by have:=zbG kvs k v;omega
  refine wpAny_setItem_heap (hsz:=hz) (tupleKind_room_in1 hu) (zfA I.hok eb) dd λh' dd' hs=>h _ ?_
  obtain⟨q,es,ep,hq,h2,h3,h4,_,h5⟩:=dd'
  refine zjV I (by rw[e];exact True.intro) hs ⟨q,hq⟩ ⟨hl,hd,_,(rel.put k eb rv).keeps λc ys ec=>?_,q,es,ep,hq,h2,h3,h4,h5⟩
  rw[ze (zQ ec e (λz=>nomatch z))]
  exact ec
end
section
variable{X:Cx}{pins:List (Addr×Obj)}{σ:St}{H:Hp}{s:Shared}{a:Addr}{kvs:List (Key×V)}{k:Key}{u:Value}{A:Around}{E:Value->Shared->Prop}
end
def zoA(i:Expr):Prop:=∀ov iv,subscripted i false ov iv=operate [ov,iv] (getItem ov iv)
theorem znx{prog:Program}{w:World}{A:Around}{E:Value->Shared->Prop}{s:Shared}{env:Env}{value slice:Expr}{pos:Pos}{T id:String}{Q:Value->Shared->Prop}
 (hl:typeLookup (.type T) "__getitem__"=pure (some (.builtin id))) (hs:zoA slice)
 (h:wpAny (model prog w) A (eval value env) (λo s₁=>wpAny (model prog w) A (eval slice env) (λi s₂=>s₂.TypeIs o T/\wpAny (model prog w) A (getItem o i) Q E s₂) E s₁) E s):
 wpAny (model prog w) A (eval (.Subscript value slice pos) env) Q E s:=by
 refine Subscript_ (wpAny_mono h (λo s₁ h₁=>wpAny_mono h₁ (λi s₂ h₂=>?_) λ_ _ x=>x) λ_ _ x=>x)
 obtain⟨hT,h₂⟩:=h₂
 unfold subscriptTail
 refine wpAny_bind ?_
 rw[getitemInPython_of_ne hT.not_modules]
 refine wpAny_bind (wpAny_specialOf hT hl ?_)
 have fin:wpAny (model prog w) A (subscripted slice false o i) (λr s₃=>wpAny (model prog w) A (letTemporaryGo value o r>>=λ_=>pure r) Q E s₃) E s₂:=by
  rw[hs o i]
  exact wpAny_operating (wpAny_mono h₂ (λr s₃ h₃=>wpAny_bind (wpAny_letTemporaryGo (wpAny_pure h₃))) λ_ _ x=>x)
 first
  |exact wpAny_pure (wpAny_bind fin)
  |exact wpAny_bind (wpAny_pure (wpAny_bind fin))
  |exact wpAny_bind fin
theorem zhB{X:Cx}{pins:List (Addr×Obj)}{σ:St}{H:Hp}{s:Shared}{a:Addr}{y:V}{o:Option V}(I:Inv X pins σ H s)(g:DGet H a y o):s.TypeIs (.ref a) "dict":=by
 rcases g with⟨kvs,k,e,_,_⟩|⟨kvs,k,b,e,_,_,_⟩
 ·obtain ⟨_,_,vs,_,dd⟩:=zf3 I.hok e
  exact dd.typeIs
 ·obtain ⟨_,_,xs,_,dd⟩:=zgf I.hok e
  exact dd.typeIs
noncomputable def zn3(td ty:TE):TE:=λσ H Q=>td σ H λx H1=>ty σ H1 λy H2=>∃a v,x= .ref a/\DGet H2 a y (some v)/\Q v H2
noncomputable def zod(td ty tv:TE):TS:=λD σ H=>tv σ H λv H1=>td σ H1 λx H2=>ty σ H2 λy H3=>∃a H4,x= .ref a/\DPut H3 a y v H4/\D.nx σ H4
section
variable{X:Cx}{o i e value:Expr}{pos pos' tpos:Pos}{td ty tv:TE}
theorem znp(hu:X.A.units+1<cLine)(ho:PE X o td)(hi:PE X i ty)(hs:zoA i):PE X (.Subscript o i pos) (zn3 td ty):=by
 intro pins s σ H Q I h
 refine znx PySem.F.slot_dict_getitem.lookup hs (thn (ho pins s σ H _ I h) λu s1 ⟨x,H1,I1,rx,q1⟩=>thn (hi pins s1 σ H1 _ I1 q1) λiv s2 ⟨y,H2,I2,ry,a,v,ex,g,q2⟩=>?_)
 subst ex
 obtain rfl:u=Value.ref a:=rx
 exact⟨zhB I2 g,zj0 hu I2 g ry λw' s3 I3 rw'=>⟨v,H2,I3,rw',q2⟩⟩
theorem zm4(hu:X.A.units+1<cLine)(ho:PE X o td)(hi:PE X i ty)(hv:PE X value tv)(hs:swapsWith value (some (.Subscript o i pos')) pos.line X.env=pure false):
 PS X (.Assign [.Subscript o i pos'] value pos) (zod td ty tv):=by
 intro pins s σ H D I h
 refine wpAny_Assign_Subscript (thn (hv pins s σ H _ I h) λr s1 ⟨v,H1,I1,rv,q1⟩=>thn (ho pins s1 σ H1 _ I1 q1) λu s2 ⟨x,H2,I2,rx,q2⟩=>thn (hi pins s2 σ H2 _ I2 q2) λiv s3 ⟨y,H3,I3,ry,a,H4,ex,g,q3⟩=>?_) hs
 subst ex
 obtain rfl:u=Value.ref a:=rx
 exact zko hu I3 g ry rv λs4 I4=>⟨σ,H4,I4,q3⟩
end
theorem zlu{P:Program}{w:World}{H:Hp}(h:Heap)(hb:sysModules<h.objs.size):ObjOk P w H (h.push {cls:= .type "dict",data:= .dict #[]}) h.objs.size (.dK []):=
 ⟨Nat.zero_le _,beq_eq_false_iff_ne.mpr (Ne.symm (Nat.ne_of_lt hb)),[], .nil,Heap.DictOf.new h⟩
theorem zl5{P:Program}{w:World}{H:Hp}(h:Heap)(hb:sysModules<h.objs.size):ObjOk P w H (h.push {cls:= .type "dict",data:= .dict #[]}) h.objs.size (.dT []):=
 ⟨Nat.zero_le _,beq_eq_false_iff_ne.mpr (Ne.symm (Nat.ne_of_lt hb)),[], .nil,_, #[],0,Heap.get?_push_size _ rfl,⟨rfl,rfl,rfl⟩,rfl,rfl,List.nodup_nil⟩
noncomputable def zlS:TE:=λ_ H Q=>∀p,H p=none->Q (.ref p) (upd H p (.dK []))
noncomputable def zkZ:TE:=λ_ H Q=>∀p,H p=none->Q (.ref p) (upd H p (.dT []))
section
variable{X:Cx}{pos:Pos}
theorem zl8:PE X (.Dict [] [] pos) zlS:=λpins s σ H Q I h=>
 wpAny_Dict_empty ⟨.ref s.heap.objs.size,_,I.laid (a:=s.heap.objs.size) (o:= .dK []) (t':=s.toks) (λ_ _ q=>Heap.get?_push_of_some _ q) (Nat.le_refl _) (zlu s.heap I.big),rfl,h _ (I.hok.fresh (Nat.le_refl _))⟩
theorem zlF:PE X (.Dict [] [] pos) zkZ:=λpins s σ H Q I h=>
 wpAny_Dict_empty ⟨.ref s.heap.objs.size,_,I.laid (a:=s.heap.objs.size) (o:= .dT []) (t':=s.toks) (λ_ _ q=>Heap.get?_push_of_some _ q) (Nat.le_refl _) (zl5 s.heap I.big),rfl,h _ (I.hok.fresh (Nat.le_refl _))⟩
end
def zll:List (TE×TE)->St->Hp->(List (V×V)->Hp->Prop)->Prop
 |[],_,H,Q=>Q [] H
 |(tk,tv)::r,σ,H,Q=>tk σ H λx H1=>tv σ H1 λy H2=>zll r σ H2 λps H3=>Q ((x,y)::ps) H3
abbrev VV:List (V×V)->List (Value×Value)->Prop:=Paired λp q=>RelV p.1 q.1/\RelV p.2 q.2
def PPs(X:Cx)(pos:Pos)(keys:List (Option Expr))(values:List Expr)(trs:List (TE×TE)):Prop:=
 ∀(pins:List (Addr×Obj)) (s:Shared) (σ:St) (H:Hp) (Q:List (V×V)->Hp->Prop),Inv X pins σ H s->zll trs σ H Q->
  wpAny (model X.prog X.w) X.A (evalPairs (pairTrees keys values X.env pos)) (λvs s'=>∃ps H',Inv X pins σ H' s'/\VV ps vs/\Q ps H') X.xe s
structure M1(X:Cx)(o:Expr)(m:Str)(apos:Pos)(e:Expr)(cpos:Pos):Prop where
 base:attributeBase o m X.env (eval o X.env)=eval o X.env
 few:((backTo cpos (starEach [e] X.env)).all (λx=>!x.1)&&(backToKw cpos (keywordEach [] X.env)).all (λx=>x.1.isSome)
  &&decide (([e]:List Expr).length+([]:List Keyword).length+(if([]:List Keyword).isEmpty then 0 else 1)<30))=true
 line:(apos.endLine==cpos.line)=true
 trees:backTo cpos (starEach [e] X.env)=[(false,eval e X.env)]
structure M2(X:Cx)(o:Expr)(m:Str)(apos:Pos)(e f:Expr)(cpos:Pos):Prop where
 base:attributeBase o m X.env (eval o X.env)=eval o X.env
 few:((backTo cpos (starEach [e,f] X.env)).all (λx=>!x.1)&&(backToKw cpos (keywordEach [] X.env)).all (λx=>x.1.isSome)
  &&decide (([e,f]:List Expr).length+([]:List Keyword).length+(if([]:List Keyword).isEmpty then 0 else 1)<30))=true
 line:(apos.endLine==cpos.line)=true
 trees:backTo cpos (starEach [e,f] X.env)=[(false,eval e X.env),(false,eval f X.env)]
def IsD(H:Hp)(a:Addr):Prop:=(∃kvs,Rd H a (.dK kvs))\/∃kvs,Rd H a (.dT kvs)
theorem zoP{X:Cx}{pins:List (Addr×Obj)}{σ:St}{H:Hp}{s:Shared}{a:Addr}(I:Inv X pins σ H s)(d:IsD H a):
 s.TypeIs (.ref a) "dict"/\(∀b,Value.ref a= .ref b->∃ob,s.heap.get? b=some ob/\ob.dict=none)/\(a==sysModules)=false:=by
 rcases d with⟨kvs,e⟩|⟨kvs,e⟩
 ·obtain ⟨_,hd,vs,_,dd⟩:=zf3 I.hok e
  refine⟨dd.typeIs,λb q=>?_,hd⟩
  cases q
  obtain⟨ob,_,_,h1,h2,_⟩:=dd
  exact⟨ob,h1,h2.2.1⟩
 ·obtain ⟨_,hd,xs,_,dd⟩:=zgf I.hok e
  refine⟨dd.typeIs,λb q=>?_,hd⟩
  cases q
  obtain⟨ob,_,_,h1,h2,_⟩:=dd
  exact⟨ob,h1,h2.2.1⟩
section
variable{X:Cx}{pins:List (Addr×Obj)}{σ:St}{H:Hp}{s:Shared}{a:Addr}{y d:V}{u r:Value}{o:Option V}{A:Around}{E:Value->Shared->Prop}
theorem zoZ{Q:Value->Shared->Prop}(hu:A.units+1<cLine)(I:Inv X pins σ H s)(g:DGet H a y o)(ry:RelV y u)(rd:RelV d r)(h:∀w' s',Inv X pins σ H s'->RelV (o.getD d) w'->Q w' s'):
 wpAny (model X.prog X.w) A (call (.builtin "dict.get") [.ref a,u,r]) Q E s:=by
 rcases g with⟨kvs,k,e,ey,l⟩|⟨kvs,k,b,e,ey,eb,l⟩
 ·subst ey
  obtain⟨z,hd,vs,rel,dd⟩:=zf3 I.hok e
  refine call_meetsIn PySem.F.slot_dict_get dd.typeIs PySem.F.entry_dict_get (PySem.F.args_dict_get_3 _ _ _) (meets_dict_get_default (zW X.prog X.w) a (zhN ry) hd r) ⟨_,dd.mapOf,h _ _ (I.tok _) ?_⟩
  rw[l]
  exact(rel.val k).getD rd
 ·subst ey
  cases(show u=Value.ref b from ry)
  obtain⟨z,hd,xs,rel,dd⟩:=zgf I.hok e
  refine call_meetsIn PySem.F.slot_dict_get dd.typeIs PySem.F.entry_dict_get (PySem.F.args_dict_get_3 _ _ _) (meetsH_dict_get_default (tupleKind (zW X.prog X.w)) a b hd r) ⟨tupleKind_room_in1 hu,k,xs,zfA I.hok eb,dd,h _ _ (I.tok _) ?_⟩
  rw[l]
  exact(rel.val k).getD rd
end
noncomputable def zmj(td ty tx:TE):TE:=λσ H Q=>td σ H λx H1=>∃a,x= .ref a/\IsD H1 a/\ty σ H1 λy H2=>tx σ H2 λz H3=>∃o,DGet H3 a y o/\Q (o.getD z) H3
section
variable{X:Cx}{o e f:Expr}{apos cpos:Pos}{td ty tx:TE}
theorem zmi(hu:X.A.units+1<cLine)(ho:PE X o td)(he:PE X e ty)(hf:PE X f tx)(m:M2 X o "get" apos e f cpos):PE X (.Call (.Attribute o "get" apos) [e,f] [] cpos) (zmj td ty tx):=by
 intro pins s σ H Q I h
 refine wpAny_Call_method m.base m.few m.line PySem.F.plainAttrs_dict PySem.F.slot_dict_get PySem.F.type_dict_get (thn (ho pins s σ H _ I h) λu s1 ⟨x,H1,I1,rx,a,ex,d,q1⟩=>?_)
 subst ex
 obtain rfl:u=Value.ref a:=rx
 obtain⟨t1,t2,_⟩:=zoP I1 d
 refine⟨t1,t2,?_⟩
 rw[m.trees]
 refine Calls.callWith_builtin rfl (Calls.evalArgs_plain (Calls.spliced_cons (thn (he pins s1 σ H1 _ I1 q1) λiv s2 ⟨y,H2,I2,ry,q2⟩=>
  Calls.spliced_cons (thn (hf pins s2 σ H2 _ I2 q2) λfv s3 ⟨z,H3,I3,rz,ov,g,q3⟩=>Calls.spliced_nil ?_))))
 exact zoZ hu I3 g ry rz λw' s4 I4 rw'=>⟨_,H3,I4,rw',q3⟩
end
section
variable{X:Cx}{pins:List (Addr×Obj)}{σ:St}{H:Hp}{s:Shared}{a:Addr}{kvs:List (Key×V)}{A:Around}{E:Value->Shared->Prop}
end
section
variable{X:Cx}{pins:List (Addr×Obj)}{σ:St}{H:Hp}{s:Shared}{a:Addr}{y:V}{u:Value}{A:Around}{E:Value->Shared->Prop}
end
section
variable{X:Cx}
theorem za6:∀{ys:List Str} {us:List Value},Vals (ys.map V.str) us->StrsAre us ys
 |[],_, .nil=>by first|exact .nil|trivial
 |y::ys,_, .cons r t=>by
  obtain⟨k,rfl⟩:=r
  first
   |exact .cons _ _ (za6 t)
   |exact .cons (za6 t)
   |exact⟨⟨k,rfl⟩,za6 t⟩
noncomputable def ze9(z:Str)(n:Nat):Str:=⟨(List.replicate n z.cps).foldl (·++·) #[]⟩
theorem zi7:OpR X (binaryOp .Mult) (λx y H Q=>∃z n,x= .str z/\y= .int n/\1<n/\n<=1000/\0<z.length/\z.length<=1000/\Q (.str (ze9 z n.toNat)) H):=by
 intro pins s σ H x y v u Q I rx ry h
 obtain⟨z,n,rfl,rfl,h1,h2,h3,h4,q⟩:=h
 obtain⟨t,rfl⟩:=rx
 obtain⟨t',rfl⟩:=ry
 have e1:¬n<1:=by omega
 have e2:(n==1||z.length==0)=false:=by
  have a:(n==1)=false:=beq_eq_false_iff_ne.mpr (by omega)
  have b:(z.length==0)=false:=beq_eq_false_iff_ne.mpr (by omega)
  rw[a,b];rfl
 have hz:z.length*n.toNat<=1000*1000:=Nat.mul_le_mul h4 (by omega)
 refine PySem.P.mul_str ?_ (λ_ _=>?_) (λ_ _=>?_) ?_
 ·have a:decide (n< -(2^63:Int))=false:=decide_eq_false (by omega)
  have b:decide (n≥2^63)=false:=decide_eq_false (by omega)
  rw[a,b];rfl
 ·have hd:(1000:Int)<=(2^63 -1)/n:=by
   apply Int.le_ediv_of_mul_le (by omega)
   omega
  omega
 ·have hb:z.length*n.toNat<=sizeLine:=Nat.le_trans hz (by decide)
  unfold Builtin.Str.tooLong
  exact decide_eq_false (by omega)
 ·rw[if_neg e1,e2]
  simp only[Bool.false_eq_true,if_false]
  refine⟨?_,⟨.str _,H,I.tok _,⟨_,rfl⟩,q⟩⟩
  have key:∀(k:Nat) (acc:Array Nat),((List.replicate k z.cps).foldl (·++·) acc).size=acc.size+k*z.cps.size:=by
   intro k
   induction k with
   |zero=>intro acc;simp
   |succ k ih=>intro acc;rw[List.replicate_succ,List.foldl_cons,ih,Array.size_append,Nat.succ_mul];omega
  have hk:=key n.toNat #[]
  have hz':n.toNat *z.cps.size<=1000*1000:=Nat.mul_le_mul (by omega) h4
  have hsl:1000*1000<=sizeLine:=by decide
  show((List.replicate n.toNat z.cps).foldl (·++·) #[]).size<=sizeLine
  rw[hk]
  simp only[Array.size_empty]
  omega
theorem zco:bootBuiltins "len"=some (.builtin "len"):=by decide +kernel
theorem zgH:bootBuiltins "max"=some (.builtin "max"):=by decide +kernel
theorem zed:bootBuiltins "min"=some (.builtin "min"):=by decide +kernel
theorem zcs:bootBuiltins "sorted"=some (.builtin "sorted"):=by decide +kernel
theorem zeX:bootBuiltins "int"=some (.type "int"):=by decide +kernel
theorem zbq:bootBuiltins "tuple"=some (.type "tuple"):=by decide +kernel
theorem znd:bootBuiltins "list"=some (.type "list"):=by decide +kernel
theorem few{α:Type}{xs:List α}(h:Nat.ble xs.length 1000=true):xs.length<=sizeLine:=Nat.le_of_lt (zm (Nat.le_of_ble_eq_true h))
noncomputable def zd8:Expr->Option V
 | .Constant (.str x) _ _=>some (.str x)
 | .Constant (.int i) _ _=>some (.int i)
 | .Constant (.bool b) _ _=>some (.bl b)
 | .Constant .none _ _=>some .non
 |_=>none
theorem zlf{e:Expr}{v:V}(h:zd8 e=some v):PE X e (tC v)/\∀es,starEach (e::es) X.env=(false,eval e X.env)::starEach es X.env:=by
 cases e with
 |Constant c j pos=>
  cases c with
  |str x=>cases h;exact⟨zlq,λ_=>rfl⟩
  |int x=>cases h;exact⟨zle,λ_=>rfl⟩
  |bool x=>cases h;exact⟨zn4,λ_=>rfl⟩
  |none=>cases h;exact⟨zk8,λ_=>rfl⟩
  |_=>cases h
 |_=>cases h
noncomputable def zqa(vs:List V):TA:=λ_ H Q=>Q vs H
theorem zd0:∀{es:List Expr} {vs:List V},es.mapM zd8=some vs->PA X es (zqa vs)
 |[],vs,h=>by
  have e:vs=[]:=by simpa using h.symm
  subst e
  exact zlB
 |e::es,vs,h=>by
  rw[List.mapM_cons] at h
  cases h1:zd8 e with
  |none=>rw[h1] at h;cases h
  |some v=>
   rw[h1] at h
   cases h2:es.mapM zd8 with
   |none=>rw[h2] at h;cases h
   |some us=>
    rw[h2] at h
    have e1:v::us=vs:=Option.some.inj h
    subst e1
    obtain⟨p,st⟩:=zlf (X:=X) h1
    have q:=zjP p (zd0 (es:=es) h2) (st es)
    exact q
noncomputable def zn6(vs:List V):TE:=λ_ H Q=>vs.length<=sizeLine/\∀p,H p=none->Q (.ref p) (upd H p (.lst vs))
theorem znw(vs:List V){es:List Expr}{pos:Pos}(h:es.mapM zd8=some vs):PE X (.List es pos) (zn6 vs):=zly (zd0 h)
end
structure Wk(J:It)(n:Nat)(P:Nat->V->Prop)(ok:Hp->Prop):Prop where
 stop:∀i H,ok H->n<=i->J.stop i H
 go:∀i H,ok H->i<n->J.go i H
 yld:∀i H x H',ok H->i<n->J.yld i H x H'->H'=H/\P i x
theorem zbX{K:PySem.W.Frag}{a:Addr}{xs:List V}:Wk (Itl K a) xs.length (λi x=>xs[i]?=some x) (λH=>SqL K H a xs) where
 stop:=λi H h l=>⟨xs,h,l⟩
 go:=λi H h l=>⟨xs,xs[i],h,by simp[l]⟩
 yld:=λi H x H' h l y=>⟨y.1,y.2 xs h⟩
theorem zb5{K:PySem.W.Frag}{a:Addr}{xs:List V}:Wk (Itt K a) xs.length (λi x=>xs[i]?=some x) (λH=>SqT K H a xs) where
 stop:=λi H h l=>⟨xs,h,l⟩
 go:=λi H h l=>⟨xs,xs[i],h,by simp[l]⟩
 yld:=λi H x H' h l y=>⟨y.1,y.2 xs h⟩
theorem zcl{lo:Int}{n:Nat}:Wk (Itr lo n) n (λi x=>x= .int (lo+i)) (λ_=>True) where
 stop:=λi H h l=>l
 go:=λi H h l=>l
 yld:=λi H x H' h l y=>y
theorem zbv{J:It}{n:Nat}{P:Nat->V->Prop}{ok:Hp->Prop}{g:TG}{tc:TT}{te:TE}{src:List (Option Nat)}{σ:St}{H1:Hp}{Q:VK}(wk:Wk J n P ok)(Pv:Addr->Nat->List V->St->Hp->Prop)
 (h0:∀l,H1 l=none->Pv l 0 [] (zfV src σ) (upd H1 l (.lst []))) (hok:∀l i ys σ H,H1 l=none->Pv l i ys σ H->ok H)
 (hs:∀l i x ys σ H,H1 l=none->i<n->P i x->Pv l i ys σ H->H l=some (.lst ys)->g x σ H λσ2 H3=>tc σ2 H3 λb H4=>
   if b=true then te σ2 H4 λy H5=>H5 l=some (.lst ys)/\ys.length<sizeLine/\Pv l (i+1) (ys ++ [y]) σ2 (upd H5 l (.lst (ys ++ [y])))else H4 l=some (.lst ys)/\Pv l (i+1) ys σ2 H4)
 (hd:∀l ys σ H,H1 l=none->Pv l n ys σ H->H l=some (.lst ys)->Q (.ref l) H):
 zef g tc te src σ Q J H1:=by
 intro l hl
 refine⟨λi m ys σ H=>m=n -i/\i<=n/\Pv l i ys σ H,⟨n,by simp,Nat.zero_le _,h0 l hl⟩,?_⟩
 rintro i m ys σ' H' ⟨rfl,hi,p⟩ hl'
 by_cases hlt:i<n
 ·refine .inr ⟨wk.go i H' (hok l i ys σ' H' hl p) hlt,Pv l (i+1),λzs σ2 H2 q=>⟨n -(i+1),by omega,rfl,hlt,q⟩,λx H2 y=>?_⟩
  obtain⟨rfl,px⟩:=wk.yld i H' x H2 (hok l i ys σ' H' hl p) hlt y
  exact hs l i x ys σ' _ hl hlt px p hl'
 ·have e:i=n:=by omega
  subst e
  exact .inl ⟨wk.stop _ _ (hok l _ ys σ' H' hl p) (Nat.le_refl _),hd l ys σ' H' hl p hl'⟩
theorem zaK{J:It}{n:Nat}{P:Nat->V->Prop}{ok:Hp->Prop}{g:TG}{tb:TS}{D:Ends}{σ:St}{H:Hp}(wk:Wk J n P ok)(Pv:Nat->St->Hp->Prop)(h0:Pv 0 σ H)(hok:∀i σ H,Pv i σ H->ok H)
 (hs:∀i x σ H,i<n->P i x->Pv i σ H->g x σ H λσ2 H2=>tb {D with nx:=Pv (i+1),ct:=Pv (i+1),bk:=D.nx} σ2 H2) (hd:∀σ H,Pv n σ H->D.nx σ H):
 zn5 g tb D σ J H:=by
 refine⟨λi m σ H=>m=n -i/\i<=n/\Pv i σ H,⟨n,by simp,Nat.zero_le _,h0⟩,?_⟩
 rintro i m σ H ⟨rfl,hi,p⟩
 by_cases hlt:i<n
 ·refine .inr ⟨wk.go i H (hok i σ H p) hlt,Pv (i+1),λσ' H' q=>⟨n -(i+1),by omega,rfl,hlt,q⟩,λx H' y=>?_⟩
  obtain⟨rfl,px⟩:=wk.yld i H x H' (hok i σ H p) hlt y
  exact hs i x σ _ hlt px p
 ·have e:i=n:=by omega
  subst e
  exact .inl ⟨wk.stop _ _ (hok _ σ H p) (Nat.le_refl _),hd σ H p⟩
structure QE(X:Cx)(e:Expr)(t:TE):Prop where o:PE X e t
structure QT(X:Cx)(e:Expr)(t:TT):Prop where o:PT X e t
structure QW(X:Cx)(e:Expr)(t:TT):Prop where o:PW X e t
structure QA(X:Cx)(es:List Expr)(t:TA):Prop where o:PA X es t
structure QS(X:Cx)(s:Stmt)(t:TS):Prop where o:PS X s t
structure QB(X:Cx)(s:List Stmt)(t:TS):Prop where o:PSs X s t
structure QI(X:Cx)(tg iter:Expr)(t:TI):Prop where o:PI X tg iter t
structure QG(X:Cx)(tg:Expr)(t:TG):Prop where o:PG X tg t
structure QGs(X:Cx)(tg:List Expr)(t:TGs):Prop where o:PGs X tg t
structure QF(X:Cx)(ifs:List Expr)(t:TT):Prop where o:PIf X ifs t
structure QO(X:Cx)(e:Option Expr)(t:TO):Prop where o:PO X e t
structure QPs(X:Cx)(pos:Pos)(keys:List (Option Expr))(values:List Expr)(trs:List (TE×TE)):Prop where o:PPs X pos keys values trs
section
variable{X:Cx}{a b c e o i:Expr}{es:List Expr}{ta tb tc te to ti:TE}{t u:TA}{pos p apos cpos:Pos}{j:Nat}{x:Str}{sa sb:TS}{q q':TT}{rest:List Expr}
theorem qv(i:Nat){x:Str}{pos:Pos}(hN:X.N[i]?=some x:=by rfl)(hv:Vis X.env.scope x:=by exact Or.inl rfl)(hd:(x==("__debug__":Str))=false:=by decide)
 (hcd:(x==("__classdict__":Str))=false:=by decide):QE X (.Name x pos) (zm0 i):=⟨zlX hN hv hd hcd⟩
theorem qc(i:Nat){x:Str}{pos:Pos}(hN:X.N[i]?=some x:=by rfl)(hv:X.env.scope.names.lookup x=some .cell:=by rfl)(hd:(x==("__debug__":Str))=false:=by decide)
 (hcd:(x==("__classdict__":Str))=false:=by decide):QE X (.Name x pos) (zm0 i):=⟨zlX hN (.inr (.inl hv)) hd hcd⟩
theorem zg{k:Int}:QE X (.Constant (.int k) j pos) (tC (.int k)):=⟨zle⟩
theorem za3{k:Str}:QE X (.Constant (.str k) j pos) (tC (.str k)):=⟨zlq⟩
theorem zgS{k:Bool}:QE X (.Constant (.bool k) j pos) (tC (.bl k)):=⟨zn4⟩
theorem zch:QE X (.Constant .none j pos) (tC .non):=⟨zk8⟩
theorem zlN{v:V}{u:Value}(hm:X.mg x=some u)(r:RelV v u)(hg:Gl X x:=by rfl)(hd:(x==("__debug__":Str))=false:=by decide):QE X (.Name x pos) (tC v):=⟨znA hg hm r hd⟩
theorem zz{op:Operator}{r:R2}(ho:OpR X (binaryOp op) r)(ha:QE X a ta)(hb:QE X b tb):QE X (.BinOp a op b pos) (tOp r ta tb):=⟨zpS ho ha.o hb.o⟩
theorem ziI{op:UnaryOp}{r:V->Hp->VK->Prop}(ho:UnR X (unaryOp op) r)(ha:QE X a ta):QE X (.UnaryOp op a pos) (tUn r ta):=⟨zps ho ha.o⟩
theorem zdr{op:CmpOp}{r:R2}(ho:OpR X (compareOp op) r)(ha:QE X a ta)(hb:QE X b tb)(hm:behindInMarks op b=false:=by rfl):QE X (.Compare a [op] [b] pos) (tOp r ta tb):=⟨zmC ho ha.o hb.o hm⟩
theorem zB{op:CmpOp}{r:R2}(ho:OpR X (compareOp op) r)(ha:QE X a ta)(hb:QE X b tb)(hm:behindInMarks op b=false:=by rfl):QT X (.Compare a [op] [b] pos) (znW (tOp r ta tb)):=⟨zmA ho ha.o hb.o hm⟩
theorem zpL{op:BoolOp}(h:QE X a ta):QE X (.BoolOp op [a] pos) ta:=⟨zpa h.o⟩
theorem zpI(ha:QE X a ta)(hb:QE X (.BoolOp .And (b::rest) pos) tb):QE X (.BoolOp .And (a::b::rest) pos) (zn0 ta tb):=⟨zpc ha.o hb.o⟩
theorem zpB(ha:QE X a ta):QE X (.UnaryOp .Not a pos) (znZ ta):=⟨zor ha.o⟩
theorem zpZ(hc:QT X c q)(ha:QE X a ta)(hb:QE X b tb):QE X (.IfExp c a b pos) (tIf q ta tb):=⟨zma hc.o ha.o hb.o⟩
theorem zot(ha:QT X a q):QW X (.BoolOp .And [a] pos) q:=⟨zm3 ha.o⟩
theorem zji(ha:QT X a q):QW X (.BoolOp .Or [a] pos) q:=⟨zo5 ha.o⟩
theorem zpM(ha:QT X a q)(hb:QW X (.BoolOp .And (b::rest) pos) q'):QW X (.BoolOp .And (a::b::rest) pos) (zp4 q q'):=⟨zoX ha.o hb.o⟩
theorem znf(ha:QT X a q)(hb:QW X (.BoolOp .Or (b::rest) pos) q'):QW X (.BoolOp .Or (a::b::rest) pos) (tOr q q'):=⟨zpv ha.o hb.o⟩
theorem t_w(h:QW X a q):QT X a q:=⟨h.o.pt⟩
theorem zkW(ha:QT X a q):QT X (.UnaryOp .Not a pos) (zp0 q):=⟨zoV ha.o⟩
theorem zlv(h:QE X e te)(he:∀whole,isTrue e X.env whole=(do let v ←whole;standAt e.pos;holding [v] (truthy v)):=by intro _;rfl):QT X e (tB te):=⟨zpi h.o he⟩
theorem zmO(h:QE X e te)(he:∀whole,isTrue e X.env whole=(do let v ←whole;standAt e.pos;holding [v] (truthy v)):=by intro _;rfl):QT X e (λσ H Q=>te σ H λx H'=>∃k,zou X.K x H' k/\Q k H'):=⟨zmn h.o he⟩
theorem zd:QA X [] zk6:=⟨zlB⟩
theorem za(ha:QE X e te)(hr:QA X es t)(hs:starEach (e::es) X.env=(false,eval e X.env)::starEach es X.env:=by rfl):QA X (e::es) (zjI te t):=⟨zjP ha.o hr.o hs⟩
theorem zD{k:Nat}(h:QA X es t):QE X (.Tuple es k pos) (zp3 t):=⟨zoq h.o⟩
theorem zbL(h:QA X es t):QE X (.List es pos) (zo8 t):=⟨zly h.o⟩
theorem zd7(vs:List V)(h:es.mapM zd8=some vs):QE X (.List es pos) (zn6 vs):=⟨znw vs h⟩
theorem zj{CX:CXT}{k:Nat}{f:Addr}{fd:FuncData}{ps:List Str}{sp:Sp}{dvs:List V}{ds:List Value}{E:XK}(F:FnOk X.prog X.w X.K X.mg X.base CX k f fd ps sp)(hr:Room k X.A)(hm:X.mg x=some (.ref f))(hk:PySem.W.keepIn X.K (.ref f)=true)(hb:Binds X.K fd ps ds)(hd:Vals dvs ds)(hx:zb4 CX X E)
 (ha:QA X (e::es) t) (hg:Gl X x:=by rfl) (hdb:(x==("__debug__":Str))=false:=by decide) (he:starEach (e::es) X.env=(false,eval e X.env)::starEach es X.env:=by rfl) (hpl:(backTo pos (starEach es X.env)).any (·.1)=false:=by rfl):
 QE X (.Call (.Name x p) (e::es) [] pos) (znU sp dvs E t):=⟨zmJ F hr hg hm hk hb hd hx ha.o hdb he hpl⟩
theorem zH{id:String}{r:List V->Hp->VK->Prop}(hc:CallR X (.builtin id) r)(hm:X.mg x=none)(hv:bootBuiltins x=some (.builtin id))(ha:QA X (e::es) t)(hg:Gl X x:=by rfl)(hn:x≠"__name__":=by decide)(hdb:(x==("__debug__":Str))=false:=by decide)
 (he:starEach (e::es) X.env=(false,eval e X.env)::starEach es X.env:=by rfl) (hpl:(backTo pos (starEach es X.env)).any (·.1)=false:=by rfl):QE X (.Call (.Name x p) (e::es) [] pos) (tCB r t):=⟨zmk hc hg hm hv ha.o hn hdb he hpl⟩
theorem z5{T:String}{r:List V->Hp->VK->Prop}(hc:CallR X (.type T) r)(hm:X.mg x=none)(hv:bootBuiltins x=some (.type T))(ha:QA X (e::es) t)(hg:Gl X x:=by rfl)(hn:x≠"__name__":=by decide)(hdb:(x==("__debug__":Str))=false:=by decide)
 (he:starEach (e::es) X.env=(false,eval e X.env)::starEach es X.env:=by rfl) (hpl:(backTo pos (starEach es X.env)).any (·.1)=false:=by rfl):QE X (.Call (.Name x p) (e::es) [] pos) (tCB r t):=⟨zkc hc hg hm hv ha.o hn hdb he hpl⟩
theorem zM{r:R2}(hr:IxR X r)(ha:QE X a ta)(hb:QE X b tb)(hs:zjW b:=by exact λ_ _=>rfl):QE X (.Subscript a b pos) (tOp r ta tb):=⟨zp2 hr ha.o hb.o hs⟩
theorem zi8:QO X none zjy:=⟨zne⟩
theorem ziZ(h:QE X e te):QO X (some e) (zoi te):=⟨znJ h.o⟩
theorem zoO{r:V->Option Int->Option Int->Hp->VK->Prop}{lo hi:Option Expr}{tl th:TO}(hr:SlR X r)(he:QE X e te)(hl:QO X lo tl)(hu:QO X hi th):QE X (.Subscript e (.Slice lo hi none p) pos) (tSl r te tl th):=⟨zlW hr he.o hl.o hu.o⟩
theorem zfr{T id:String}{name:Str}{r:V->List V->Hp->VK->Prop}(pa:PlainAttrs T)(slot:Slot T name id)(hty:typeOf (.builtin id)=pure (.type "method_descriptor"))(hm:MtR X id r)(ho:QE X o to)(ha:QA X (e::es) t)
 (hbase:attributeBase o name X.env (eval o X.env)=eval o X.env:=by rfl)
 (hfew:((backTo cpos (starEach (e::es) X.env)).all (λx=>!x.1)&&(backToKw cpos (keywordEach [] X.env)).all (λx=>x.1.isSome)
   &&decide ((e::es).length+([]:List Keyword).length+(if([]:List Keyword).isEmpty then 0 else 1)<30))=true:=by rfl)
 (hline:(apos.endLine==cpos.line)=true:=by rfl) (hs:starEach (e::es) X.env=(false,eval e X.env)::starEach es X.env:=by rfl) (hplain:(backTo cpos (starEach es X.env)).any (·.1)=false:=by rfl):
 QE X (.Call (.Attribute o name apos) (e::es) [] cpos) (tBM X.K T r to t):=⟨zpt pa slot hty hm ho.o ha.o hbase hfew hline hs hplain⟩
theorem zcA{tg:Expr}(h:QE X e te):QI X tg e (zn1 X.K te):=⟨znC h.o⟩
theorem zc3{tg:Expr}(h:QE X e te):QI X tg e (zpJ X.K te):=⟨zpg h.o⟩
theorem zc8{tg:Expr}(hm:X.mg "range"=none)(ha:QA X [a] t)(hg:Gl X "range":=by rfl)(hs:starEach [a] X.env=[(false,eval a X.env)]:=by rfl):QI X tg (.Call (.Name "range" p) [a] [] pos) (zoj t):=⟨zkJ hg hm ha.o hs⟩
theorem zlQ{tg:Expr}(hm:X.mg "range"=none)(ha:QA X [a,b] t)(hg:Gl X "range":=by rfl)(hs:starEach [a,b] X.env=[(false,eval a X.env),(false,eval b X.env)]:=by rfl)(hs2:starEach [b] X.env=[(false,eval b X.env)]:=by rfl):QI X tg (.Call (.Name "range" p) [a,b] [] pos) (zog t):=⟨zkA hg hm ha.o hs hs2⟩
theorem zr(k:Nat)(hN:X.N.Nodup)(hi:X.N[k]?=some x:=by rfl)(hx:X.env.scope.names.lookup x=some .local:=by rfl):QG X (.Name x pos) (zcw k):=⟨zjM hN hi (.inl hx) (.inr hx)⟩
theorem zbu:QGs X [] zpQ:=⟨zmB⟩
theorem zv{tg:TG}{tgs:TGs}(h1:QG X e tg)(h2:QGs X es tgs)(hs:(assignEach (e::es) X.env).map (·.2)=assign e X.env::(assignEach es X.env).map (·.2):=by rfl):QGs X (e::es) (znX tg tgs):=⟨zkR h1.o h2.o hs⟩
theorem zcO(n:Nat){k:Nat}{tgs:TGs}(hc:X.calm=true)(h:QGs X es tgs)(hn:(assignEach es X.env).length=n:=by rfl)(hst:(assignEach es X.env).findIdx? (·.1)=none:=by rfl):QG X (.Tuple es k pos) (zo0 X.K n tgs):=⟨zpf hc h.o hn hst⟩
theorem zew:QF X [] zny:=⟨znv⟩
theorem zgg(h:QT X c q):QF X [c] q:=⟨znH h.o⟩
theorem z8:QB X [] zob:=⟨zm7⟩
theorem zf{st:Stmt}{sts:List Stmt}(h1:QS X st sa)(h2:QB X sts sb):QB X (st::sts) (zj4 sa sb):=⟨zh8 h1.o h2.o⟩
theorem zk{st:Stmt}(h1:QS X st sa):QB X [st] sa:=⟨zmu h1.o⟩
theorem zaQ{A B:List Stmt}(hc:QT X c q)(ha:QB X A sa)(hb:QB X B sb):QS X (.If c A B pos) (zpu q sa sb):=⟨zpR hc.o ha.o hb.o⟩
theorem zx(h:QE X e te):QS X (.Return (some e) pos) (zpx te):=⟨zo9 h.o⟩
theorem zcm(he:QE X e te)(hs:swapsWith e none pos.line X.env=pure false:=by rfl):QS X (.Expr e pos) (znV te):=⟨zmF he.o hs⟩
theorem zk4:QS X (.Continue pos) zol:=⟨zht⟩
theorem zw(k:Nat){pos':Pos}(hN:X.N.Nodup)(he:QE X e te)(hi:X.N[k]?=some x:=by rfl)(hx:X.env.scope.names.lookup x=some .local:=by rfl)(hs:swapsWith e (some (.Name x pos')) pos.line X.env=pure false:=by rfl):
 QS X (.Assign [.Name x pos'] e pos) (zi2 te (zcw k)):=⟨zmr hN hi (.inl hx) he.o hs (.inr hx)⟩
theorem zcp(k:Nat){pos':Pos}(hN:X.N.Nodup)(he:QE X e te)(hi:X.N[k]?=some x:=by rfl)(hx:X.env.scope.names.lookup x=some .cell:=by rfl)(hf:X.fn x=true:=by rfl)(hs:swapsWith e (some (.Name x pos')) pos.line X.env=pure false:=by rfl):
 QS X (.Assign [.Name x pos'] e pos) (zi2 te (zcw k)):=⟨zmr hN hi (.inr hx) he.o hs (.inl hf)⟩
theorem zbw{tg iter:Expr}{body:List Stmt}{wi:TI}{g:TG}(hp:PassesOwn (model X.prog X.w) X.A X.env X.xe)(hc:X.calm=true)(hi:QI X tg iter wi)(hg:QG X tg g)(hb:QB X body sa)
 (hs:∀x,foldedSetIterable iter X.env x=pure x:=by intro _;rfl):QS X (.For tg iter body [] pos) (zoh wi g sa):=⟨znS hp hc hi.o hg.o hb.o hs⟩
end
section
variable{X:Cx}{elt tg iter:Expr}{ifs:List Expr}{scope osc:Scope}{pos:Pos}{N':List Str}{src:List (Option Nat)}{wi:TI}{g:TG}{tc:TT}{te:TE}
theorem zcI(ok:CompOk X.N osc N' src scope)(hsc:X.env.scope=osc)(hc:X.calm=true)(hi:QI X tg iter wi)
 (hg:∀cl C s₀ H₀ fp,QG (zS X N' scope cl C s₀ H₀ fp) tg g) (ht:∀cl C s₀ H₀ fp,QF (zS X N' scope cl C s₀ H₀ fp) ifs tc) (he:∀cl C s₀ H₀ fp,QE (zS X N' scope cl C s₀ H₀ fp) elt te)
 (hs:∀x,foldedSetIterable iter X.env x=pure x:=by intro _;rfl):QE X (.ListComp elt [⟨tg,iter,ifs,0⟩] scope pos) (zjh wi g tc te src):=
 ⟨zmU ok hsc hc hi.o (λcl C s₀ H₀ fp=>(hg cl C s₀ H₀ fp).o) (λcl C s₀ H₀ fp=>(ht cl C s₀ H₀ fp).o) (λcl C s₀ H₀ fp=>(he cl C s₀ H₀ fp).o) hs⟩
end
theorem Fun.okQ{P:Program}{w:World}{K:PySem.W.Frag}{mg:Str->Option Value}{base:Heap}{x qual:Str}{st:Stmt}{f:Addr}{fd:FuncData}{N ps:List Str}{k:Nat}{sp:Sp}(F:Fun K x qual st f fd)(S:FnScope N ps (zc st))(len:∀vs H Q E,sp vs H Q E->vs.length=ps.length)
 (hbody:∀(cdv:Value) (A:Around) (outer:List Env) (s:Shared) (H:Hp) (vs:List V) (Q:VK) (E:XK),Room k (A.deeper (envOfC qual (zc st) s.heap.objs.size f cdv))->sp vs H Q E->
   ∃t,QB (zhG CX0 P w K mg base N qual (zc st) f cdv A outer s H E).nox (zp st) t/\t {nx:=λ_ H'=>Q .non H',rt:=Q} (zds N vs) H):FnOk P w K mg base CX0 (k+1) f fd ps sp:=
 F.ok S len λcdv A outer s H vs Q E hr h=>let ⟨t,a,b⟩:=hbody cdv A outer s H vs Q E hr h;⟨t,a.o,b⟩
theorem zo1{h:Heap}{a:Addr}{m:Str->Option Value}(hn:h.Ns a m):∃o,h.get? a=some o/\∀v,o.data≠ .cell v:=
 let⟨o,es,ep,e,d,_⟩:=hn;⟨o,e,λv z=>by rw[d] at z;cases z⟩
theorem zms{h h':Heap}{a:Addr}{m:Str->Option Value}{o:Obj}(hn:h.Ns a m)(e:h.get? a=some o)(e':h'.get? a=some o):h'.Ns a m:=by
 obtain⟨o',es,ep,e1,r⟩:=hn
 rw[e] at e1
 cases e1
 exact⟨o,es,ep,e',r⟩
section
variable{X:Cx}{elt tg iter:Expr}{ifs:List Expr}{scope osc:Scope}{pos:Pos}{N':List Str}{src:List (Option Nat)}{wi:TI}{g:TG}{tc:TT}{te:TE}{y:Str}{py spos:Pos}{k:Nat}
theorem zjb(ok:CompOk X.N osc N' src scope)(hsc:X.env.scope=osc)(hc:X.calm=true)(hi:PI X tg iter wi)
 (hg:∀cl C s₀ H₀ fp,PG (zS X N' scope cl C s₀ H₀ fp) tg g) (ht:∀cl C s₀ H₀ fp,PIf (zS X N' scope cl C s₀ H₀ fp) ifs tc) (he:∀cl C s₀ H₀ fp,PE (zS X N' scope cl C s₀ H₀ fp) elt te)
 (hN:X.N.Nodup) (hk:X.N[k]?=some y) (hx:X.env.scope.names.lookup y=some .local) (hsw:swapsWith (.ListComp elt [⟨tg,iter,ifs,0⟩] scope pos) (some (.Name y py)) spos.line X.env=pure true)
 (hs:∀x,foldedSetIterable iter X.env x=pure x:=by intro _;rfl):PS X (.Assign [.Name y py] (.ListComp elt [⟨tg,iter,ifs,0⟩] scope pos) spos) (zi2 (zjh wi g tc te src) (zcw k)):=by
 intro pins s σ H D I h
 obtain⟨cl,hcl,c1,c2⟩:=zfC (scope:=scope) (env:=X.env) λy hy hyf=>I.ok.has y.1 (by
  have z:=ok.frees y hy hyf
  rw[←hsc] at z
  exact z)
 rw[exec_Assign_Name_used _ _ _ _ hsw]
 refine wpAny_bind (wpAny_standAt (wpAny_bind ?_))
 show wpAny _ X.A (do let _ ←comprehension (.ListComp elt [⟨tg,iter,ifs,0⟩] scope pos) scope X.env _ (newList []) false (eval iter X.env) (some (assign (.Name y py) X.env))) _ _ s
 refine wpAny_bind (wpAny_mono (wpAny_comprehension_free (use:=some (assign (.Name y py) X.env)) (Q:=λ_ s'=>∃σ' H',Inv X pins σ' H' s'/\D.nx σ' H') rfl hs hcl ok.kind ok.loc
  (thn (hi pins s σ H _ I h) λv s1 h1=>thn h1 λitv s2 h2=>?_)) (λ_ s' hq=>wpAny_pure (wpAny_pure hq)) λ_ _ e=>e)
 obtain⟨it,fp,tn,J,H2,e,I2,T,st2,f2,q2⟩:=h2
 subst e
 have hlt2:∀b∈fp,b<s2.heap.objs.size:=λb hb=>by
  obtain⟨o,e,_⟩:=T.obj _ _ st2 b hb
  exact Heap.lt_size e
 refine wpAny_newObj_type ?_
 have hl:H2 s2.heap.objs.size=none:=I2.hok.fresh (Nat.le_refl _)
 have I3:Inv X pins σ (upd H2 s2.heap.objs.size (.lst [])) {s2 with heap:=s2.heap.push {cls:= .type "list",dict:=none,data:= .seq ([]:List Value).toArray}}:=
  I2.laid (t':=s2.toks) (λb u e=>Heap.get?_push_of_some _ e) (Nat.le_refl _) ⟨Nat.zero_le _,[],0, .nil,Heap.get?_push_size _ rfl⟩
 obtain⟨W,⟨m0,w0⟩,turn⟩:=q2 _ hl
 generalize hl2:s2.heap.objs.size=l at *
 generalize hs3:({s2 with heap:=s2.heap.push {cls:= .type "list",dict:=none,data:= .seq ([]:List Value).toArray}}:Shared)=s3 at *
 have f3:∀b∈fp,zeh X pins (upd H2 l (.lst [])) b:=λb hb=>⟨by rw[ze (Nat.ne_of_lt (hlt2 b hb))];exact(f2 b hb).1,(f2 b hb).2⟩
 have k3:∀b o,s2.heap.get? b=some o->s3.heap.get? b=some o:=λb o e=>by rw[←hs3];exact Heap.get?_push_of_some _ e
 have hlt3:∀b∈fp,b<s3.heap.objs.size:=λb hb=>by
  obtain⟨o,e,_⟩:=T.obj _ _ st2 b hb
  exact Heap.lt_size (k3 b o e)
 refine wpAny_newFunctionEnv ok.nocell (by intro y hy;simp at hy) (λh₁ hns₁ hsb₁=>?_) ok.kind
 have k4:∀b o,s3.heap.get? b=some o->h₁.get? b=some o:=λb o e=>(hsb₁.2 b (Nat.ne_of_lt (Heap.lt_size e))).trans (Heap.get?_push_of_some _ e)
 have J0:=zft (tk:=s3.toks+([]:List (Str×Value)).length) I3 f3 hlt3 ok hsc c1 c2 hns₁ k4
 have st4:tn 0 h₁:=T.keep _ _ _ st2 λb hb o e=>k4 b o (k3 b o e)
 generalize hC:s3.heap.objs.size=C at *
 have stat:∀{H':Hp},(∀b∈fp,H' b=none)->∀b∈fp,zeh (zS X N' scope cl C s3 (upd H2 l (.lst [])) fp) [] H' b:=λ{H'} hn b hb=>
  ⟨hn b hb,(J0.ok.exf b hb).1,J0.ok.exfs b hb, .inl hb,(J0.ok.exf b hb).2,λp hp=>absurd (show p∈([]:List (Addr×Obj))from hp) (by simp)⟩
 have loop:codeAny (model X.prog X.w) X.A (.compLoop (.ListComp elt [⟨tg,iter,ifs,0⟩] scope pos) 0 (.ref it) (.ref l) (compEnvC scope cl C X.env))
  (compPost (model X.prog X.w) X.A X.xe (some (assign (.Name y py) X.env)) (λ_ s'=>∃σ' H',Inv X pins σ' H' s'/\D.nx σ' H') (.ref l) C) {s3 with heap:=h₁,toks:=s3.toks+([]:List (Str×Value)).length}:=by
  refine zdY (λn s'=>∃i ys σ' H',Inv (zS X N' scope cl C s3 (upd H2 l (.lst [])) fp) [] σ' H' s'/\tn i s'.heap/\(∀b∈fp,H' b=none)/\H' l=some (.lst ys)/\W i n ys σ' H') ?_ m0
   ⟨0,[],_,_,J0,st4,λb hb=>(f3 b hb).1,zb,w0⟩
  rintro n s5 ⟨i,ys,σ5,H5,I5,st5,fr5,hl5,w5⟩
  rcases turn i n ys σ5 H5 w5 hl5 with⟨stop,qn⟩|⟨go,N,hN,step⟩
  ·refine thn (T.done (zS X N' scope cl C s3 (upd H2 l (.lst [])) fp) rfl rfl rfl hc i [] s5 σ5 H5 (λ_ _=>False) I5 (stat fr5) st5 stop) λr s6 ⟨hr,I6⟩=>?_
   subst hr
   obtain⟨m,hn,_⟩:=I6.loc
   have hCs:s3.heap.objs.size<=C:=by rw[←hC];exact Nat.le_refl _
   have I7:Inv X pins σ H5 s6:=zeY (h':=s6.heap) I3 f3 hCs I6 ⟨rfl,λ_ _=>rfl⟩
   have fC:zeh X pins H5 C:=I3.fpOk hCs I6.free
   obtain⟨oC,eC,dC⟩:∃o,s6.heap.get? C=some o/\∀v,o.data≠ .cell v:=by
    obtain⟨o,e,d⟩:=zo1 hn
    exact⟨o,e,d⟩
   have I8:=I7.pinned (fp:=[C]) (λb hb=>by rw[List.mem_singleton.mp hb];exact fC) (λb hb=>by rw[List.mem_singleton.mp hb];exact⟨oC,eC,dC⟩)
   refine wpAny_assign_Name (zcW (v:= .ref l) I8 hN hk (.inl hx) rfl (λs9 I9=>?_) (.inr hx))
   have p9:=(I9.pin (C,oC) (List.mem_append_right _ (List.mem_append_right _ (za7 (List.mem_singleton.mpr rfl) eC)))).1
   refine⟨m,zms hn eC p9,λh' hsb=>⟨_,H5,?_,qn⟩⟩
   obtain⟨f0,f1,f2,f3',f4,f5⟩:=fC
   exact I9.unpinned.turned (t':=s9.toks) (λb o hb e=>(hsb.2 b hb).trans e) f0 f1 f3' f4 f5
  ·refine thn (T.item (zS X N' scope cl C s3 (upd H2 l (.lst [])) fp) rfl rfl rfl hc i [] s5 σ5 H5 (λ_ _=>False) I5 (stat fr5) st5 go) λr s6 ⟨u,hr,h6⟩=>?_
   subst hr
   refine thn h6 λ_ s7 ⟨x,H7,I7,r7,y7,st7,fr7⟩=>?_
   have I7':=I7.pinned (stat fr7) (T.obj _ _ st7)
   refine thn (hg cl C s3 _ fp _ s7 σ5 H7 x u _ I7' r7 (step x H7 y7)) λ_ s8 ⟨σ8,H8,I8,q8⟩=>?_
   refine thn (ht cl C s3 _ fp _ s8 σ8 H8 _ I8 q8) λb s9 ⟨H9,I9,q9⟩=>?_
   have back:∀{s':Shared} {H':Hp},Inv (zS X N' scope cl C s3 (upd H2 l (.lst [])) fp) ([]++zeb fp s7.heap) σ8 H' s'->tn (i+1) s'.heap/\∀b∈fp,H' b=none:=λ{s' H'} I'=>by
    refine⟨T.keep _ _ _ st7 λb hb o e=>(I'.pin (b,o) (List.mem_append_right _ (List.mem_append_right _ (za7 hb e)))).1,λb hb=>?_⟩
    obtain⟨o,e,d⟩:=T.obj _ _ st7 b hb
    exact(I'.pin (b,o) (List.mem_append_right _ (List.mem_append_right _ (za7 hb e)))).2.1
   cases b with
   |false=>
    obtain⟨hl9,n9⟩:=q9
    obtain⟨m',hm,w9⟩:=hN _ _ _ n9
    obtain⟨t9,fr9⟩:=back I9
    exact⟨m',hm,i+1,ys,σ8,H9,I9.unpinned,t9,fr9,hl9,w9⟩
   |true=>
    refine thn (he cl C s3 _ fp _ s9 σ8 H9 _ I9 q9) λxv s10 ⟨y,H10,I10,r10,hl10,hz,n10⟩=>?_
    obtain⟨m',hm,w10⟩:=hN _ _ _ n10
    refine thn (zaS (X:=zS X N' scope cl C s3 (upd H2 l (.lst [])) fp) _ s10 σ8 H10 (.ref l) [y] (.ref l) [xv] (λv H'=>H'=upd H10 l (.lst (ys ++ [y]))) I10 rfl (.cons r10 .nil) ⟨l,ys,y,rfl,rfl,hl10,hz,rfl⟩) λ_ s11 ⟨_,H11,I11,_,e11⟩=>?_
    subst e11
    obtain⟨t11,fr11⟩:=back I11
    exact⟨m',hm,i+1,ys ++ [y],σ8,_,I11.unpinned,t11,fr11,zb,w10⟩
 exact codeAny_compStart_list loop (T.self _ 0 _ _ _ st4 loop)
theorem zcx(k:Nat)(ok:CompOk X.N osc N' src scope)(hsc:X.env.scope=osc)(hc:X.calm=true)(hN:X.N.Nodup)(hi:QI X tg iter wi)
 (hg:∀cl C s₀ H₀ fp,QG (zS X N' scope cl C s₀ H₀ fp) tg g) (ht:∀cl C s₀ H₀ fp,QF (zS X N' scope cl C s₀ H₀ fp) ifs tc) (he:∀cl C s₀ H₀ fp,QE (zS X N' scope cl C s₀ H₀ fp) elt te)
 (hk:X.N[k]?=some y:=by rfl) (hx:X.env.scope.names.lookup y=some .local:=by rfl) (hsw:swapsWith (.ListComp elt [⟨tg,iter,ifs,0⟩] scope pos) (some (.Name y py)) spos.line X.env=pure true:=by rfl)
 (hs:∀x,foldedSetIterable iter X.env x=pure x:=by intro _;rfl):QS X (.Assign [.Name y py] (.ListComp elt [⟨tg,iter,ifs,0⟩] scope pos) spos) (zi2 (zjh wi g tc te src) (zcw k)):=
 ⟨zjb ok hsc hc hi.o (λcl C s₀ H₀ fp=>(hg cl C s₀ H₀ fp).o) (λcl C s₀ H₀ fp=>(ht cl C s₀ H₀ fp).o) (λcl C s₀ H₀ fp=>(he cl C s₀ H₀ fp).o) hN hk hx hsw hs⟩
end
section
variable{X:Cx}{e o i tg:Expr}{te to ti:TE}{g:TG}{pos:Pos}{x:Str}{t:znu}
theorem zcP(he:QE X e te)(hg:QG X tg g)(hs:swapsWithSole [tg] e pos.line X.env=pure false:=by rfl)(hw:swappedStores [tg] e X.env=pure none:=by rfl)
 (h1:(assignEach [tg] X.env).map (·.2)=[assign tg X.env]:=by rfl):QS X (.Assign [tg] e pos) (zi2 te g):=⟨zpk he.o hg.o hs hw h1⟩
theorem zin(ho:QE X o to)(hi:QE X i ti)(hs:zpb X t)(ha:∀v,assign (.Subscript o i pos) X.env v=(do
 let ov ←holding [v] (eval o X.env)
 let iv ←holding [v,ov] (eval i X.env)
 standAt pos
 holding [v,ov,iv] (setItem ov iv v)
 release [v,ov,iv] []):=by intro _;rfl):QG X (.Subscript o i pos) (zpF to ti t):=⟨zoS ho.o hi.o hs ha⟩
theorem zjZ(k:Nat)(hN:X.N.Nodup)(hi:X.N[k]?=some x:=by rfl)(hx:X.env.scope.names.lookup x=some .cell:=by rfl)(hf:X.fn x=true:=by rfl):QG X (.Name x pos) (zcw k):=⟨zjM hN hi (.inr hx) (.inl hf)⟩
end
noncomputable def zp5(t u:TS):TS:=λD σ H=>∃R:St->Hp->Prop,t {D with nx:=R} σ H/\∀σ' H',R σ' H'->u D σ' H'
theorem zeU{X:Cx}{st:Stmt}{sts:List Stmt}{sa sb:TS}(h1:QS X st sa)(h2:QB X sts sb):QB X (st::sts) (zp5 sa sb):=by
 refine⟨λpins s σ H D I h=>?_⟩
 obtain⟨R,ha,hb⟩:=h
 have h3:PSs X sts (λD' σ' H'=>D'=D/\R σ' H'):=λpins s σ' H' D' I h=>by
  obtain⟨rfl,hR⟩:=h
  exact h2.o pins s σ' H' D' I (hb σ' H' hR)
 have e:(λσ' H'=>D=D/\R σ' H')=R:=by
  funext σ' H'
  simp
 refine zh8 h1.o h3 pins s σ H D I ?_
 show sa {D with nx:=λσ' H'=>D=D/\R σ' H'} σ H
 rw[e]
 exact ha
section
variable{X:Cx}
theorem zlo(z:Str):ze9 z 1=z:=by
 unfold ze9
 simp
theorem zhw:OpR X (binaryOp .Mult) (λx y H Q=>∃z n,x= .str z/\y= .int n/\1<=n/\n<=1000/\0<z.length/\z.length<=1000/\Q (.str (ze9 z n.toNat)) H):=by
 intro pins s σ H x y v u Q I rx ry h
 obtain⟨z,n,rfl,rfl,h1,h2,h3,h4,q⟩:=h
 by_cases h:1<n
 ·exact zi7 pins s σ H _ _ v u Q I rx ry ⟨z,n,rfl,rfl,h,h2,h3,h4,q⟩
 ·have e:n=1:=by omega
  subst e
  obtain⟨t,rfl⟩:=rx
  obtain⟨t',rfl⟩:=ry
  refine PySem.P.mul_str (by decide) (λ_ z=>by simp at z) (λ_ z=>by simp at z) ?_
  simp only[show¬(1:Int)<1 by decide,if_false,beq_self_eq_true,Bool.true_or,if_true]
  refine⟨.str _,H,I,⟨_,rfl⟩,?_⟩
  have e:ze9 z (1:Int).toNat=z:=zlo z
  rw[e] at q
  exact q
end
section
variable{X:Cx}{K:PySem.W.Frag}
theorem zcg(h:X.K=K):IxR X (zpl K):=by subst h;exact ix_tup
theorem zfN(h:X.K=K):OpR X (compareOp .NotIn) (rIn K true):=by subst h;exact zgF
theorem zaH:CallR X (.builtin "len") (λxs H Q=>(∃p ys,xs=[.ref p]/\(SqL X.K H p ys\/SqT X.K H p ys)/\Q (.int ys.length) H)\/∃z,xs=[.str z]/\z.length<=sizeLine/\Q (.int z.length) H):=call_len_seq.or zgO
theorem ziH(n:Nat){k:Nat}{es:List Expr}{pos:Pos}{tgs:TGs}(hK:X.K=K)(hc:X.calm=true)(h:QGs X es tgs)(hn:(assignEach es X.env).length=n:=by rfl)(hst:(assignEach es X.env).findIdx? (·.1)=none:=by rfl):QG X (.Tuple es k pos) (zo0 K n tgs):=by subst hK;exact zcO n hc h hn hst
end
end L2
namespace RW
open PySem PySem.Spec PyProof.Rows L2
noncomputable def zjF(c:Nat):Bool:=decide (97<=c)&&decide (c<=122)
noncomputable def takenL:List Str:=["if","and","not","never"]
noncomputable def zi(x:Str):Bool:=decide (1<=x.length)&&decide (x.length<=8)&&x.cps.toList.all zjF&&!(takenL.any λy=>decide (y=x))
def Hand(H:Hp)(a:Addr)(n:Int):Prop:=∃x m t:Int,H a=some (.lst [.int x, .int m, .int t])/\0<=m/\m<2^63/\0<=t/\t<=n
def Keep(a:Addr)(H H':Hp):Prop:=∀b o,b≠a->H b=some o->H' b=some o
theorem Keep.refl(a:Addr)(H:Hp):Keep a H H:=λ_ _ _ h=>h
theorem Keep.trans{a:Addr}{H H1 H2:Hp}(x:Keep a H H1)(y:Keep a H1 H2):Keep a H H2:=λb o n h=>y b o n (x b o n h)
theorem Keep.upd(a:Addr)(H:Hp)(o:HO):Keep a H (upd H a o):=λb u n h=>by rw[ze n];exact h
theorem Keep.new{a p:Addr}{H:Hp}{o:HO}(h:H p=none):Keep a H (L2.upd H p o):=λb u n e=>by rw[ze (zh e h)];exact e
theorem Keep.of{a:Addr}{H H':Hp}(h:Same H H'):Keep a H H':=λb o _ e=>h b o e
theorem Hand.ne{H:Hp}{a p:Addr}{n:Int}(h:Hand H a n)(e:H p=none):p≠a:=by
 obtain⟨x,m,t,h,_⟩:=h
 exact λz=>by rw[z,h] at e;cases e
theorem Hand.new{H:Hp}{a p:Addr}{n:Int}{o:HO}(h:Hand H a n)(e:H p=none):Hand (upd H p o) a n:=by
 have ne:=h.ne e
 obtain⟨x,m,t,h,r⟩:=h
 exact⟨x,m,t,by rw[ze (Ne.symm ne)];exact h,r⟩
theorem Hand.same{H H':Hp}{a:Addr}{n:Int}(h:Hand H a n)(s:Same H H'):Hand H' a n:=by
 obtain⟨x,m,t,h,r⟩:=h
 exact⟨x,m,t,s _ _ h,r⟩
theorem Hand.mono{H:Hp}{a:Addr}{n n':Int}(h:Hand H a n)(l:n<=n'):Hand H a n':=by
 obtain⟨x,m,t,h,h1,h2,h3,h4⟩:=h
 exact⟨x,m,t,h,h1,h2,h3,by omega⟩
theorem Keep.sqL{K:PySem.W.Frag}{a b:Addr}{H H':Hp}{xs:List V}(k:Keep a H H')(n:b≠a)(h:SqL K H b xs):SqL K H' b xs:=by
 rcases h with(h|⟨o,h⟩)|h
 ·exact .inl (.inl (k _ _ n h))
 ·exact .inl (.inr ⟨o,k _ _ n h⟩)
 ·exact .inr h
theorem Hand.updNe{H:Hp}{a p:Addr}{n:Int}{o:HO}(h:Hand H a n)(e:p≠a):Hand (upd H p o) a n:=by
 obtain⟨x,m,t,h,r⟩:=h
 exact⟨x,m,t,by rw[ze (Ne.symm e)];exact h,r⟩
theorem Keep.updNew{a p:Addr}{H H':Hp}{o:HO}(k:Keep a H H')(e:H p=none):Keep a H (L2.upd H' p o):=λb u n h=>by
 rw[ze (zh h e)]
 exact k b u n h
noncomputable def lettersS:Str:="abcdefghijklmnopqrstuvwxyz"
noncomputable def one(c:Nat):Str:=⟨#[c]⟩
theorem Same.new{H:Hp}{p:Addr}{o:HO}(h:H p=none):Same H (L2.upd H p o):=λb u e=>by rw[ze (zh e h)];exact e
structure At(K:PySem.W.Frag)(mg:Str->Option Value)(x:Str)(st:Stmt)(ps:List Str)(f:Addr)(fd:FuncData):Prop where
 fn:Fun K x x st f fd
 b:Binds K fd ps []
 mg:mg x=some (.ref f)
 kp:PySem.W.keepIn K (.ref f)=true
theorem zdc{α:Type}{xs:List α}{d:Int}(h0:0<=d)(h1:d<xs.length):∃v,atI xs d=some v/\v∈xs:=by
 obtain⟨k,rfl⟩:∃k:Nat,d=(k:Int):=⟨d.toNat,by omega⟩
 have hk:k<xs.length:=by omega
 exact⟨xs[k],zI (by simp[hk]),List.getElem_mem hk⟩
theorem at0{α:Type}{x:α}{xs:List α}:atI (x::xs) 0=some x:=zI (j:=0) rfl
theorem at1{α:Type}{x y:α}{xs:List α}:atI (x::y::xs) 1=some y:=zI (j:=1) rfl
inductive D where
 |non|bl (b:Bool)|int (i:Int)|str (x:Str)|tup (ds:List D)|oth
inductive Rep(H:Hp):V->D->Prop where
 |non:Rep H .non .non
 |bl (b:Bool):Rep H (.bl b) (.bl b)
 |int (i:Int):Rep H (.int i) (.int i)
 |str (x:Str) (h:x.length<=1000):Rep H (.str x) (.str x)
 |tup {p:Addr} {vs:List V} {ds:List D} (h:H p=some (.tup vs)) (l:vs.length=ds.length) (b:ds.length<=1000) (r:∀(i:Nat) (v:V) (d:D),vs[i]?=some v->ds[i]?=some d->Rep H v d):Rep H (.ref p) (.tup ds)
 |lst {p:Addr} {vs:List V} (h:H p=some (.lst vs)):Rep H (.ref p) .oth
 |dK {p:Addr} {kvs:List (Key×V)} (h:H p=some (.dK kvs)):Rep H (.ref p) .oth
structure Mono(H H':Hp):Prop where
 tup:∀p xs,H p=some (.tup xs)->H' p=some (.tup xs)
 lst:∀p xs,H p=some (.lst xs)->∃ys,H' p=some (.lst ys)
 dK:∀p xs,H p=some (.dK xs)->∃ys,H' p=some (.dK ys)
theorem Mono.trans{H H1 H2:Hp}(a:Mono H H1)(b:Mono H1 H2):Mono H H2:=⟨λp xs h=>b.tup p xs (a.tup p xs h),λp xs h=>let ⟨ys,e⟩:=a.lst p xs h;b.lst p ys e,λp xs h=>let ⟨ys,e⟩:=a.dK p xs h;b.dK p ys e⟩
theorem Mono.of{H H':Hp}(s:Same H H'):Mono H H':=⟨λp xs h=>s _ _ h,λp xs h=>⟨xs,s _ _ h⟩,λp xs h=>⟨xs,s _ _ h⟩⟩
theorem Mono.new{H:Hp}{p:Addr}{o:HO}(h:H p=none):Mono H (upd H p o):= .of (Same.new h)
theorem Mono.lset{H:Hp}{p:Addr}{xs ys:List V}(h:H p=some (.lst xs)):Mono H (upd H p (.lst ys)):=by
 refine⟨λq zs e=>?_,λq zs e=>?_,λq zs e=>?_⟩
 ·by_cases hq:q=p
  ·subst hq;rw[h] at e;cases e
  ·rw[ze hq];exact e
 ·by_cases hq:q=p
  ·subst hq;exact⟨ys,zb⟩
  ·rw[ze hq];exact⟨zs,e⟩
 ·by_cases hq:q=p
  ·subst hq;rw[h] at e;cases e
  ·rw[ze hq];exact⟨zs,e⟩
theorem Mono.keep{H H':Hp}{a:Addr}{n m:Int}(k:Keep a H H')(h:Hand H a n)(h':Hand H' a m):Mono H H':=by
 obtain⟨x,y,z,h,_⟩:=h
 obtain⟨x',y',z',h',_⟩:=h'
 refine⟨λq zs e=>?_,λq zs e=>?_,λq zs e=>?_⟩
 ·exact k q _ (λhq=>by subst hq;rw[h] at e;cases e) e
 ·by_cases hq:q=a
  ·subst hq;exact⟨_,h'⟩
  ·exact ⟨zs,k q _ hq e⟩
 ·exact ⟨zs,k q _ (λhq=>by subst hq;rw[h] at e;cases e) e⟩
theorem Rep.mono{H H':Hp}{v:V}{d:D}(h:Rep H v d)(m:Mono H H'):Rep H' v d:=by
 induction h with
 |non=>exact .non
 |bl b=>exact .bl b
 |int i=>exact .int i
 |str x h=>exact .str x h
 |tup h l b _ ih=>exact .tup (m.tup _ _ h) l b ih
 |lst h=>obtain ⟨ys,e⟩:=m.lst _ _ h;exact .lst e
 |dK h=>obtain ⟨ys,e⟩:=m.dK _ _ h;exact .dK e
theorem Rep.same{H H':Hp}{v:V}{d:D}(h:Rep H v d)(s:Same H H'):Rep H' v d:=h.mono (.of s)
def RepL(H:Hp)(vs:List V)(ds:List D):Prop:=vs.length=ds.length/\∀(i:Nat) (v:V) (d:D),vs[i]?=some v->ds[i]?=some d->Rep H v d
theorem RepL.nil{H:Hp}:RepL H [] []:=⟨rfl,λi v d e=>by simp at e⟩
theorem RepL.cons{H:Hp}{v:V}{d:D}{vs:List V}{ds:List D}(h:Rep H v d)(r:RepL H vs ds):RepL H (v::vs) (d::ds):=by
 refine⟨by simp[r.1],λi w e h1 h2=>?_⟩
 cases i with
 |zero=>simp at h1 h2;subst h1;subst h2;exact h
 |succ i=>exact r.2 i w e (by simpa using h1) (by simpa using h2)
theorem RepL.head{H:Hp}{v:V}{d:D}{vs:List V}{ds:List D}(r:RepL H (v::vs) (d::ds)):Rep H v d/\RepL H vs ds:=
 ⟨r.2 0 v d rfl rfl,by have:=r.1;simp at this;exact this,λi w e h1 h2=>r.2 (i+1) w e (by simpa using h1) (by simpa using h2)⟩
theorem RepL.mono{H H':Hp}{vs:List V}{ds:List D}(r:RepL H vs ds)(m:Mono H H'):RepL H' vs ds:=⟨r.1,λi v d h1 h2=>(r.2 i v d h1 h2).mono m⟩
theorem RepL.append{H:Hp}{vs us:List V}{ds es:List D}(r:RepL H vs ds)(q:RepL H us es):RepL H (vs ++us) (ds ++es):=by
 refine⟨by rw[List.length_append,List.length_append,r.1,q.1],λi v d h1 h2=>?_⟩
 by_cases hi:i<vs.length
 ·rw[List.getElem?_append_left hi] at h1
  rw[List.getElem?_append_left (by rw[←r.1];exact hi)] at h2
  exact r.2 i v d h1 h2
 ·rw[List.getElem?_append_right (by omega)] at h1
  rw[List.getElem?_append_right (by rw[←r.1];omega),←r.1] at h2
  exact q.2 _ v d h1 h2
theorem RepL.get{H:Hp}{vs:List V}{ds:List D}{i:Nat}{v:V}(r:RepL H vs ds)(h:vs[i]?=some v):∃d,ds[i]?=some d/\Rep H v d:=by
 have hi:i<vs.length:=by
  rcases Nat.lt_or_ge i vs.length with q|q
  ·exact q
  ·rw[List.getElem?_eq_none q] at h;cases h
 have hd:i<ds.length:=by rw[←r.1];exact hi
 exact⟨ds[i],by simp[hd],r.2 i v _ h (by simp[hd])⟩
theorem Rep.mkL{H:Hp}{p:Addr}{vs:List V}{ds:List D}(h:H p=some (.tup vs))(b:ds.length<=1000)(r:RepL H vs ds):Rep H (.ref p) (.tup ds):= .tup h r.1 b r.2
theorem Rep.ofT{H:Hp}{v:V}{ds:List D}(h:Rep H v (.tup ds)):∃p vs,v= .ref p/\H p=some (.tup vs)/\RepL H vs ds/\ds.length<=1000:=by
 cases h with
 |tup h l b r=>exact ⟨_,_,rfl,h,⟨l,r⟩,b⟩
theorem Rep.of2{H:Hp}{v:V}{d e:D}(h:Rep H v (.tup [d,e])):∃p x y,v= .ref p/\H p=some (.tup [x,y])/\Rep H x d/\Rep H y e:=by
 obtain⟨p,vs,rfl,hp,r,_⟩:=h.ofT
 match vs,r with
 |[x,y],r=>exact ⟨p,x,y,rfl,hp,r.head.1,r.head.2.head.1⟩
 |[],r=>exact absurd r.1 (by simp)
 |[_],r=>exact absurd r.1 (by simp)
 |_::_::_::_,r=>exact absurd r.1 (by simp)
theorem Rep.mk1{H:Hp}{p:Addr}{x:V}{d:D}(h:H p=some (.tup [x]))(a:Rep H x d):Rep H (.ref p) (.tup [d]):= .mkL h (by simp) (.cons a .nil)
theorem Rep.mk2{H:Hp}{p:Addr}{x y:V}{d e:D}(h:H p=some (.tup [x,y]))(a:Rep H x d)(b:Rep H y e):Rep H (.ref p) (.tup [d,e]):= .mkL h (by simp) (.cons a (.cons b .nil))
noncomputable def isTupB:D->Bool| .tup _=>true|_=>false
noncomputable def isStrB:D->Bool| .str _=>true|_=>false
noncomputable def isNumB:D->Bool| .int _=>true|_=>false
noncomputable def ze7(d:D)(lo hi:Int):Bool:=match d with| .int i=>decide (lo<=i)&&decide (i<=hi)|_=>false
noncomputable def headStrB:D->Bool| .tup (.str _::_)=>true|_=>false
noncomputable def zdm:D->Bool| .str x=>zi x|_=>false
noncomputable def namingL:List Str:=["by","from","to","mark"]
noncomputable def zC:D->Bool
 | .tup [.str w,x]=>if w="long"then ze7 x 0 99 else(namingL.any λy=>decide (y=w))&&zdm x
 |_=>false
noncomputable def zJ(d:D):Bool:=match d with
 | .tup [.str w,x]=>if w="not"then zC x else zC d
 |_=>false
noncomputable def zaD:D->Bool| .tup ds=>decide (ds.length<=4)&&ds.all zJ|_=>false
noncomputable def zev:D->Bool| .tup [.str w,_]=>decide (w="to")|_=>false
noncomputable def zdP:D->Bool| .tup [.str w,x]=>if w="not"then zev x else decide (w="to")|_=>false
noncomputable def zbN:D->Bool| .non=>true|d=>ze7 d (-999) 999
noncomputable def zdM:D->Bool| .tup ds=>ds.any zdP|_=>false
noncomputable def zL:D->Bool| .tup [c,x]=>zaD c&&zbN x&&!zdM c|_=>false
noncomputable def zb8:D->Bool
 | .tup [.str w]=>decide (w="keep")
 | .tup [.str w,x]=>(decide (w="put")||decide (w="strike"))&&zdm x
 |_=>false
noncomputable def zbW:D->Bool| .tup [c,x]=>zaD c&&zb8 x|_=>false
theorem zdQ{w:Str}{x:D}:zC (.tup [.str w,x])=if w="long"then ze7 x 0 99 else(namingL.any λy=>decide (y=w))&&zdm x:=rfl
theorem zdV{w:Str}{x:D}:zJ (.tup [.str w,x])=if w="not"then zC x else zC (.tup [.str w,x]):=rfl
theorem zhH{ds:List D}:zaD (.tup ds)=(decide (ds.length<=4)&&ds.all zJ):=rfl
theorem zky{c x:D}:zL (.tup [c,x])=(zaD c&&zbN x&&!zdM c):=rfl
theorem znt{c x:D}:zbW (.tup [c,x])=(zaD c&&zb8 x):=rfl
theorem zoH{w:Str}{x:D}:zb8 (.tup [.str w,x])=((decide (w="put")||decide (w="strike"))&&zdm x):=rfl
theorem zh3{x:Str}:zdm (.str x)=zi x:=rfl
theorem zbR{x y:Str}:decide (V.str x=V.str y)=decide (x=y):=by
 by_cases h:x=y
 ·subst h;rw[decide_eq_true rfl,decide_eq_true rfl]
 ·rw[decide_eq_false h,decide_eq_false λz=>h (V.str.inj z)]
theorem zca(d:D)(h:zC d=true):∃x e,d= .tup [.str x,e]:=by
 unfold zC at h
 split at h
 ·exact ⟨_,_,rfl⟩
 ·cases h
theorem zf7(d:D)(h:zJ d=true):∃x e,d= .tup [.str x,e]:=by
 unfold zJ at h
 split at h
 ·exact ⟨_,_,rfl⟩
 ·cases h
theorem zdl{e:D}:zC (.tup [.str "not",e])=false:=by
 have h1:¬("not":Str)="long":=by decide +kernel
 have h2:(namingL.any λy=>decide (y=("not":Str)))=false:=by decide +kernel
 rw[zdQ,if_neg h1,h2];rfl
theorem zho{xs:List V}{n:Nat}:zdn xs none (some (n:Int))=xs.take n:=by
 unfold zdn
 have e1:HT.sIx xs.length 0 none=0:=rfl
 have e2:HT.sIx xs.length xs.length (some (n:Int))=min n xs.length:=by
  unfold HT.sIx
  have h:¬(n:Int)<0:=by omega
  simp only[if_neg h,Int.toNat_natCast]
 rw[e1,e2,List.drop_zero,Nat.sub_zero,List.take_eq_take_iff]
 omega
theorem ziG{N:Nat}{a:Addr}{m c:Int}{Pd:Nat->D->Prop}{H:Hp}{te:TE}{src:List (Option Nat)}{σ σr:L2.St}{Q:VK}(hs:zfV src σ=none::σr)(hH:Hand H a m)(hN:N<=900)(hc:0<=c)
 (he:∀(i:Nat) (H1:Hp) (Q1:VK),i<N->Hand H1 a (m+c*i)->Keep a H H1->(∀v d H2,Rep H2 v d->Pd i d->Hand H2 a (m+c*i+c)->Keep a H1 H2->Q1 v H2)->te (some (.int (i:Int))::σr) H1 Q1)
 (q:∀l vs ds H',H l=none->H' l=some (.lst vs)->RepL H' vs ds->ds.length=N->(∀i d,ds[i]?=some d->Pd i d)->Hand H' a (m+c*N)->Keep a H H'->Q (.ref l) H'):zef (zcw 0) zny te src σ Q (Itr 0 N) H:=by
 refine zbv zcl (λl i ys σ' H'=>(∃o,σ'=o::σr)/\(∃ds:List D,RepL H' ys ds/\ds.length=i/\∀j d,ds[j]?=some d->Pd j d)/\Hand H' a (m+c*i)/\Keep a H H') ?_ (λ_ _ _ _ _ _ _=>trivial) ?_ ?_
 ·exact λl hl=>⟨⟨_,hs⟩,⟨[],RepL.nil,rfl,λj d z=>by simp at z⟩,(hH.new hl).mono (by simp),Keep.new hl⟩
 ·rintro l i y ys σ' H1 hl hi rfl ⟨⟨o,rfl⟩,⟨ds,hr,hl2,hp⟩,hH1,k1⟩ hl'
  have nl:=hH.ne hl
  rw[Int.zero_add]
  refine he i H1 _ hi hH1 k1 λv d H2 rv pd hH2 k2=>?_
  have hl2':H2 l=some (.lst ys):=k2 _ _ nl hl'
  have m2:Mono H1 H2:=Mono.keep k2 hH1 hH2
  have m3:Mono H2 (upd H2 l (.lst (ys ++ [v]))):=Mono.lset hl2'
  refine⟨hl2',?_,⟨_,rfl⟩,⟨ds ++ [d],((hr.mono m2).append (.cons rv .nil)).mono m3,?_,?_⟩,(hH2.updNe nl).mono ?_,(k1.trans k2).updNew hl⟩
  ·have:=hr.1
   exact zm (by omega)
  ·rw[List.length_append,hl2];rfl
  ·intro j e he
   by_cases hj:j<ds.length
   ·rw[List.getElem?_append_left hj] at he
    exact hp j e he
   ·rw[List.getElem?_append_right (by omega)] at he
    have hj2:j=ds.length:=by
     rcases Nat.lt_or_ge ds.length j with z|z
     ·rw[List.getElem?_eq_none (by simp;omega)] at he;cases he
     ·omega
    subst hj2
    simp at he
    subst he
    rw[hl2];exact pd
  ·rw[show((i+1:Nat):Int)=(i:Int)+1 by omega,Int.mul_add,Int.mul_one]
   omega
 ·rintro l ys σ' H1 hl ⟨⟨o,rfl⟩,⟨ds,hr,hl2,hp⟩,hH1,k1⟩ hl'
  exact q l ys ds H1 hl hl' hr hl2 hp hH1 k1
end RW
namespace L2
open PySem PySem.Spec PyProof.Rows
open Sem (wp)
open MeetsSeq MeetsSeq2 MeetsSeq3 Builtin
end L2
namespace L2
open PySem PySem.Spec PyProof.Rows
theorem zd2{X:Cx}{pos:Pos}:QE X (.Dict [] [] pos) zlS:=⟨zl8⟩
end L2
namespace RW
open PySem PySem.Spec PyProof.Rows L2
def Dsp(te:TE)(σ:L2.St)(H:Hp)(d:D):Prop:=∀(H1:Hp) (Q:VK),Same H H1->(∀v H2,Same H1 H2->Rep H2 v d->Q v H2)->te σ H1 Q
def znF(ta:TA)(σ:L2.St)(H:Hp)(ds:List D):Prop:=∀(H1:Hp) (Q:List V->Hp->Prop),Same H H1->(∀vs H2,Same H1 H2->RepL H2 vs ds->Q vs H2)->ta σ H1 Q
def zpX(te:TE)(σ:L2.St)(H:Hp)(ds:List D):Prop:=∀(H1:Hp) (Q:VK),Same H H1->(∀l vs H2,Same H1 H2->H2 l=some (.lst vs)->RepL H2 vs ds->Q (.ref l) H2)->te σ H1 Q
section
variable{te tf:TE}{ta:TA}{σ:L2.St}{H:Hp}{d:D}{ds es:List D}{K:PySem.W.Frag}
theorem zmR{i:Int}:Dsp (tC (.int i)) σ H (.int i):=λH1 Q s q=>q _ H1 (Same.refl _) (.int i)
theorem znO:Dsp (tC .non) σ H .non:=λH1 Q s q=>q _ H1 (Same.refl _) .non
theorem znI{i:Int}:Dsp (tUn (rU λi=> .int (-i)) (tC (.int i))) σ H (.int (-i)):=λH1 Q s q=>⟨i,rfl,q _ H1 (Same.refl _) (.int (-i))⟩
theorem znN{i:Nat}{v:V}(h:σ[i]?=some (some v))(r:Rep H v d):Dsp (zm0 i) σ H d:=λH1 Q s q=>⟨v,h,q v H1 (Same.refl _) (r.same s)⟩
theorem zl4:znF zk6 σ H []:=λH1 Q s q=>q [] H1 (Same.refl _) RepL.nil
theorem zkK(h:Dsp te σ H d)(r:znF ta σ H ds):znF (zjI te ta) σ H (d::ds):=λH1 Q s q=>
 h H1 _ s λv H2 s2 rv=>r H2 _ (s.trans s2) λvs H3 s3 rs=>q (v::vs) H3 (s2.trans s3) (.cons (rv.same s3) rs)
theorem zk9(h:znF ta σ H ds)(hl:ds.length<=1000):zpX (zo8 ta) σ H ds:=λH1 Q s q=>
 h H1 _ s λvs H2 s2 rs=>⟨Nat.le_of_lt (zm (by rw[rs.1];exact hl)),λp hp=>q p vs _ (s2.trans (Same.new hp)) zb (rs.mono (.new hp))⟩
end
section
variable{te:TE}{tr:TA}{tb:TS}{De:Ends}{σ:L2.St}{H:Hp}{ds:List D}{d:D}{k:Nat}
theorem zoU{Q:List V->Hp->Prop}(h:zpX te σ H ds)(q:∀l vs H2,Same H H2->H2 l=some (.lst vs)->RepL H2 vs ds->tr σ H2 λxs H3=>Q (.ref l::xs) H3):zjI te tr σ H Q:=h H _ (Same.refl H) q
end
theorem zis{α:Type}{p:α->Prop}:∀d∈([]:List α),p d:=λ_ z=>nomatch z
theorem ziT{H:Hp}{a l:Addr}{n:Int}{vs:List V}{ds:List D}(h:Hand H a n)(e:H l=some (.lst vs))(r:RepL H vs ds)(h3:ds.length≠3):l≠a:=λz=>by
 obtain⟨x,m,t,hh,_⟩:=h
 rw[z,hh] at e
 cases e
 exact h3 r.1.symm
end RW
namespace RW
open PySem PySem.W PyProof.Rows L2
section
variable{α β:Type}{N:Nat}{lt:Nat->Nat->Bool}
def OkT(N:Nat)(lt:Nat->Nat->Bool){α:Type}:KasT α->(α->Prop)->Prop
 | .ret a,P=>P a
 | .ask i j k,P=>i<N/\j<N/\OkT N lt (k (lt i j)) P
theorem OkT.mono{P Q:α->Prop}(h:∀a,P a->Q a):∀{t:KasT α},OkT N lt t P->OkT N lt t Q
 | .ret a,q=>h a q
 | .ask i j k,⟨h1,h2,q⟩=>⟨h1,h2,OkT.mono h q⟩
theorem OkT.bind{f:α->KasT β}{P:β->Prop}:∀{t:KasT α},OkT N lt t (λa=>OkT N lt (f a) P)->OkT N lt (t.bind f) P
 | .ret a,q=>q
 | .ask i j k,⟨h1,h2,q⟩=>⟨h1,h2,OkT.bind q⟩
theorem OkT.wp{cmp:Nat->Nat->(Bool->Shared->Prop)->Shared->Prop}{I:Shared->Prop}(hc:∀i j (C:Bool->Shared->Prop) s,i<N->j<N->I s->(∀s',I s'->C (lt i j) s')->cmp i j C s){P:α->Prop}{Q:α->Shared->Prop}(hq:∀a s,P a->I s->Q a s):
 ∀{t:KasT α} {s:Shared},I s->OkT N lt t P->t.kasWp cmp Q s
 | .ret a,s,hs,q=>hq a s q hs
 | .ask i j k,s,hs,⟨h1,h2,q⟩=>hc i j _ s h1 h2 hs λs' hs'=>OkT.wp hc hq hs' q
noncomputable abbrev gd(p:Array Nat)(i:Nat):Nat:=p.getD i 0
structure Strict(N:Nat)(lt:Nat->Nat->Bool):Prop where
 tot:∀i j,i<N->j<N->i≠j->lt i j=false->lt j i=true
 tr:∀i j k,i<N->j<N->k<N->lt i j=true->lt j k=true->lt i k=true
 asy:∀i j,i<N->j<N->lt i j=true->lt j i=false
def PermN(N:Nat)(p:Array Nat):Prop:=p.toList.Perm (List.range N)
theorem PermN.size{p:Array Nat}(h:PermN N p):p.size=N:=by
 have:=h.length_eq
 simpa using this
theorem gd_get{p:Array Nat}{i:Nat}(h:i<p.size):gd p i=p[i]:=by simp[gd,Array.getD,h]
theorem zgA{p q:Array Nat}{i j:Nat}(h:p[i]?=q[j]?):gd p i=gd q j:=by
 simp only[gd,Array.getD_eq_getD_getElem?,h]
theorem PermN.bd{p:Array Nat}(h:PermN N p){i:Nat}(hi:i<N):gd p i<N:=by
 have hs:=h.size
 rw[gd_get (by omega)]
 have:p[i]∈p.toList:=by simp
 exact List.mem_range.mp (h.mem_iff.mp this)
theorem PermN.inj{p:Array Nat}(h:PermN N p){i j:Nat}(hi:i<N)(hj:j<N)(hij:i≠j):gd p i≠gd p j:=by
 have hs:=h.size
 have nd:p.toList.Nodup:=h.nodup_iff.mpr List.nodup_range
 rw[gd_get (by omega),gd_get (by omega)]
 intro z
 exact hij ((List.getElem_inj (i:=i) (j:=j) (h₀:=by simp;omega) (h₁:=by simp;omega) nd).mp (by simpa using z))
def Sor(lt:Nat->Nat->Bool)(p:Array Nat)(m:Nat):Prop:=∀i j,i<j->j<m->lt (gd p i) (gd p j)=true
def Des(lt:Nat->Nat->Bool)(p:Array Nat)(m:Nat):Prop:=∀i j,i<j->j<m->lt (gd p j) (gd p i)=true
theorem Sor.snoc{p:Array Nat}{n:Nat}(S:Strict N lt)(hp:PermN N p)(h:Sor lt p n)(h1:1<=n)(hn:n<N)(e:lt (gd p (n -1)) (gd p n)=true):Sor lt p (n+1):=by
 intro i j hij hj
 by_cases hjn:j<n
 ·exact h i j hij hjn
 ·have ej:j=n:=by omega
  subst ej
  by_cases hi:i=j -1
  ·subst hi;exact e
  ·exact S.tr _ _ _ (hp.bd (by omega)) (hp.bd (by omega)) (hp.bd hn) (h i (j -1) (by omega) (by omega)) e
theorem Des.snoc{p:Array Nat}{n:Nat}(S:Strict N lt)(hp:PermN N p)(h:Des lt p n)(h1:1<=n)(hn:n<N)(e:lt (gd p n) (gd p (n -1))=true):Des lt p (n+1):=by
 intro i j hij hj
 by_cases hjn:j<n
 ·exact h i j hij hjn
 ·have ej:j=n:=by omega
  subst ej
  by_cases hi:i=j -1
  ·subst hi;exact e
  ·exact S.tr _ _ _ (hp.bd hn) (hp.bd (by omega)) (hp.bd (by omega)) e (h i (j -1) (by omega) (by omega))
theorem ziy{p:Array Nat}(S:Strict N lt)(hp:PermN N p):∀f n,1<=n->n+f<=N->Sor lt p n->OkT N lt (kas_asc p f n) (λm=>n<=m/\m<=n+f/\Sor lt p m/\(m<n+f->lt (gd p m) (gd p (m -1))=true))
 |0,n,_,_,hs=>⟨Nat.le_refl _,Nat.le_refl _,hs,λh=>by omega⟩
 |f+1,n,h1,hn,hs=>by
  refine⟨hp.bd (by omega),hp.bd (by omega),?_⟩
  cases hc:lt (gd p n) (gd p (n -1))with
  |true=>
   show OkT N lt (if true=true then _ else _) _
   rw[if_pos rfl]
   exact⟨Nat.le_refl _,by omega,hs,λ_=>hc⟩
  |false=>
   show OkT N lt (if false=true then _ else _) _
   rw[if_neg (by decide)]
   refine OkT.mono (λm hm=>⟨by omega,by omega,hm.2.2.1,λh=>hm.2.2.2 (by omega)⟩) (ziy S hp f (n+1) (by omega) (by omega) (hs.snoc S hp h1 (by omega) (S.tot _ _ (hp.bd (by omega)) (hp.bd (by omega)) (hp.inj (by omega) (by omega) (by omega)) hc)))
theorem zjk{p:Array Nat}(S:Strict N lt)(hp:PermN N p):∀f n,1<=n->n+f<=N->Des lt p n->OkT N lt (kas_desc f p n 0) (λr=>r.1=p/\n<=r.2.1/\r.2.1<=n+f/\Des lt p r.2.1/\r.2.2=0)
 |0,n,_,_,hs=>⟨rfl,Nat.le_refl _,Nat.le_refl _,hs,rfl⟩
 |f+1,n,h1,hn,hs=>by
  refine⟨hp.bd (by omega),hp.bd (by omega),?_⟩
  cases hc:lt (gd p n) (gd p (n -1))with
  |true=>
   show OkT N lt (if true=true then(if 0>0 then _ else _)else _) _
   rw[if_pos rfl,if_neg (by decide)]
   exact OkT.mono (λm hm=>⟨hm.1,by omega,by omega,hm.2.2.2⟩) (zjk S hp f (n+1) (by omega) (by omega) (hs.snoc S hp h1 (by omega) hc))
  |false=>
   show OkT N lt (if false=true then _ else _) _
   rw[if_neg (by decide)]
   refine⟨hp.bd (by omega),hp.bd (by omega),?_⟩
   have hd:lt (gd p (n -1)) (gd p n)=true:=S.tot _ _ (hp.bd (by omega)) (hp.bd (by omega)) (hp.inj (by omega) (by omega) (by omega)) hc
   show OkT N lt (if lt (gd p (n -1)) (gd p n)=true then _ else _) _
   rw[if_pos hd]
   exact⟨rfl,Nat.le_refl _,by show n<=n+(f+1);omega,hs,rfl⟩
theorem zh9{p:Array Nat}(hp:PermN N p)(n:Nat):PermN N (kas_rev p 0 n):=(Array.perm_iff_toList_perm.mp (mirror_perm p 0 n _)).trans hp
theorem zm2{p:Array Nat}{n:Nat}(hp:PermN N p)(hn:n<=N)(h:Des lt p n):Sor lt (kas_rev p 0 n) n:=by
 have hs:=hp.size
 have e:∀k,k<n->gd (kas_rev p 0 n) k=gd p (n -1 -k):=λk hk=>by
  refine zgA ?_
  show(mirror p 0 n ((n -0)/2))[k]?=_
  rw[getElem?_mirror_all (by omega),if_pos ⟨Nat.zero_le _,hk⟩,Nat.zero_add]
 intro i j hij hj
 rw[e i (by omega),e j hj]
 exact h (n -1 -j) (n -1 -i) (by omega) (by omega)
def zlH(N:Nat)(lt:Nat->Nat->Bool)(r:Nat×Array Nat):Prop:=PermN N r.2/\Sor lt r.2 r.1/\1<=r.1/\r.1<=N
theorem zmp{p:Array Nat}{n:Nat}(S:Strict N lt)(hp:PermN N p)(h1:1<=n)(hn:n<=N)(h:Des lt p n):OkT N lt (kas_tail3 n N p) (zlH N lt):=by
 refine OkT.bind (OkT.mono (λm hm=>?_) (ziy S (zh9 hp n) (N -n) n h1 (by omega) (zm2 hp hn h)))
 exact⟨zh9 hp n,hm.2.2.1,by have:=hm.1;omega,by have:=hm.2.1;omega⟩
theorem zlR{p:Array Nat}(S:Strict N lt)(hp:PermN N p)(h1:1<=N):OkT N lt (kas_count N p) (zlH N lt):=by
 refine OkT.bind (OkT.mono (λn hn=>?_) (ziy S hp (N -1) 1 (Nat.le_refl _) (by omega) (λi j hij hj=>by omega)))
 obtain⟨n1,n2,hs,hl⟩:=hn
 by_cases hN:(n==N)=true
 ·rw[if_pos hN]
  exact⟨hp,hs,n1,by omega⟩
 ·have hne:n≠N:=by simpa using hN
  rw[if_neg hN]
  by_cases h2:n>1
  ·rw[if_pos h2]
   refine⟨hp.bd (by omega),hp.bd (by omega),?_⟩
   show OkT N lt (if lt (gd p 0) (gd p (n -1))=true then _ else _) _
   rw[if_pos (hs 0 (n -1) (by omega) (by omega))]
   exact⟨hp,hs,n1,by omega⟩
  ·rw[if_neg h2]
   have e1:n=1:=by omega
   subst e1
   have hd:Des lt p 2:=λi j hij hj=>by
    have ei:i=0:=by omega
    have ej:j=1:=by omega
    subst ei ej
    exact hl (by omega)
   refine OkT.bind (OkT.mono (λr hr=>?_) (zjk S hp (N -(1+1)) (1+1) (by omega) (by omega) hd))
   obtain⟨e1,r1,r2,r3,r4⟩:=hr
   rw[if_neg (by omega),e1]
   exact zmp S hp (by omega) (by omega) r3
theorem zfD{p:Array Nat}{k:Nat}(S:Strict N lt)(hp:PermN N p)(hs:Sor lt p k)(hk:k<N):∀f l r,l<=r->r<=k->r -l<=f->(∀i,i<l->lt (gd p i) (gd p k)=true)->(∀i,r<=i->i<k->lt (gd p k) (gd p i)=true)->
 OkT N lt (kas_place p k f l r) (λm=>m<=k/\(∀i,i<m->lt (gd p i) (gd p k)=true)/\∀i,m<=i->i<k->lt (gd p k) (gd p i)=true)
 |0,l,r,h1,h2,h3,ha,hb=>⟨by omega,ha,λi hi=>hb i (by omega)⟩
 |f+1,l,r,h1,h2,h3,ha,hb=>by
  by_cases hlr:l≥r
  ·show OkT N lt (if l≥r then _ else _) _
   rw[if_pos hlr]
   exact⟨by omega,ha,λi hi=>hb i (by omega)⟩
  ·show OkT N lt (if l≥r then _ else _) _
   rw[if_neg hlr]
   refine⟨hp.bd hk,hp.bd (by omega),?_⟩
   cases hc:lt (gd p k) (gd p ((l+r)/2))with
   |true=>
    show OkT N lt (if true=true then _ else _) _
    rw[if_pos rfl]
    refine zfD S hp hs hk f l ((l+r)/2) (by omega) (by omega) (by omega) ha λi hi hik=>?_
    by_cases e:i=(l+r)/2
    ·subst e;exact hc
    ·exact S.tr _ _ _ (hp.bd hk) (hp.bd (by omega)) (hp.bd (by omega)) hc (hs ((l+r)/2) i (by omega) hik)
   |false=>
    show OkT N lt (if false=true then _ else _) _
    rw[if_neg (by decide)]
    have hm:lt (gd p ((l+r)/2)) (gd p k)=true:=S.tot _ _ (hp.bd hk) (hp.bd (by omega)) (hp.inj hk (by omega) (by omega)) hc
    refine zfD S hp hs hk f ((l+r)/2+1) r (by omega) h2 (by omega) (λi hi=>?_) hb
    by_cases e:i=(l+r)/2
    ·subst e;exact hm
    ·exact S.tr _ _ _ (hp.bd (by omega)) (hp.bd (by omega)) (hp.bd hk) (hs i ((l+r)/2) (by omega) (by omega)) hm
theorem zi1{p:Array Nat}{k l:Nat}(hp:PermN N p)(hk:k<N)(hl:l<=k)(hs:Sor lt p k)(ha:∀i,i<l->lt (gd p i) (gd p k)=true)(hb:∀i,l<=i->i<k->lt (gd p k) (gd p i)=true):Sor lt (bubble p k (k -l)) (k+1):=by
 have hz:=hp.size
 have g:∀i,(bubble p k (k -l))[i]?=if i=l then p[k]? else if l<i/\i<=k then p[i -1]? else p[i]?:=λi=>by
  rw[getElem?_bubble (by omega) (k -l) (by omega),show k -(k -l)=l by omega]
 have g1:gd (bubble p k (k -l)) l=gd p k:=zgA (by rw[g,if_pos rfl])
 have g2:∀i,l<i->i<=k->gd (bubble p k (k -l)) i=gd p (i -1):=λi h1 h2=>zgA (by rw[g,if_neg (by omega),if_pos ⟨h1,h2⟩])
 have g3:∀i,i<l->gd (bubble p k (k -l)) i=gd p i:=λi h1=>zgA (by rw[g,if_neg (by omega),if_neg (by omega)])
 intro i j hij hj
 rcases Nat.lt_trichotomy i l with hi|hi|hi
 ·rw[g3 i hi]
  rcases Nat.lt_trichotomy j l with h|h|h
  ·rw[g3 j h];exact hs i j hij (by omega)
  ·subst h;rw[g1];exact ha i hi
  ·rw[g2 j h (by omega)];exact hs i (j -1) (by omega) (by omega)
 ·subst hi
  rw[g1,g2 j hij (by omega)]
  exact hb (j -1) (by omega) (by omega)
 ·rw[g2 i hi (by omega),g2 j (by omega) (by omega)]
  exact hs (i -1) (j -1) (by omega) (by omega)
theorem zml(S:Strict N lt):∀f (p:Array Nat) k,PermN N p->Sor lt p k->k+f=N->OkT N lt (kas_bin f p k) (λp'=>PermN N p'/\Sor lt p' N)
 |0,p,k,hp,hs,hk=>⟨hp,by have:k=N:=by omega
                         rw[←this];exact hs⟩
 |f+1,p,k,hp,hs,hk=>by
  refine OkT.bind (OkT.mono (λl hl=>?_) (zfD S hp hs (by omega) k 0 k (Nat.zero_le _) (Nat.le_refl _) (by omega) (λi hi=>by omega) (λi hi hik=>by omega)))
  exact zml S f _ (k+1) ((Array.perm_iff_toList_perm.mp (bubble_perm p k _)).trans hp) (zi1 hp (by omega) hl.1 hs hl.2.1 hl.2.2) (by omega)
theorem sort_ok(S:Strict N lt)(h1:1<=N):OkT N lt (kas_sort N) (λp=>PermN N p/\Sor lt p N):=by
 have h0:PermN N (List.toArray (List.range N)):=by show(List.range N).Perm _;exact List.Perm.refl _
 refine OkT.bind (OkT.mono (λr hr=>?_) (zlR S h0 h1))
 obtain⟨c1,c2,c3,c4⟩:=hr
 by_cases h:r.1<N
 ·rw[if_pos h]
  have e:max r.1 1=r.1:=by omega
  rw[e]
  exact zml S _ _ _ c1 c2 (by omega)
 ·rw[if_neg h]
  have e:r.1=N:=by omega
  rw[e] at c2
  exact⟨c1,c2⟩
end
end RW
namespace L2
open PySem PySem.W PySem.Spec PyProof.Rows
def RawD(h:Heap)(d:Addr)(ks:List Value)(ep:Nat):Prop:=∃o es,h.get? d=some o/\o.ExactDict/\o.data= .dict es ep/\es.toList.map (·.key)=ks
theorem RawD.at{h h':Heap}{d:Addr}{ks:List Value}{ep:Nat}(x:RawD h d ks ep)(e:∀o,h.get? d=some o->h'.get? d=some o):RawD h' d ks ep:=let⟨o,es,ho,r⟩:=x;⟨o,es,e _ ho,r⟩
theorem RawD.ty{s:Shared}{d:Addr}{ks:List Value}{ep:Nat}(x:RawD s.heap d ks ep):s.TypeIs (.ref d) "dict":=let⟨o,_,ho,hc,_⟩:=x;⟨o,ho,hc.1⟩
theorem RawD.lt{h:Heap}{d:Addr}{ks:List Value}{ep:Nat}(x:RawD h d ks ep):d<h.objs.size:=let⟨_,_,ho,_⟩:=x;Heap.lt_size ho
section
variable{prog:Program}{w:World}{A:Around}{E:Value->Shared->Prop}{s:Shared}{it d:Addr}{i ep:Nat}{ks:List Value}
theorem zij{R:Value->Shared->Prop}(nsys:(d==sysModules)=false)(x:RawD s.heap d ks ep)(q:R (.ref s.heap.objs.size) {s with heap:=s.heap.push {cls:= .type "dict_keyiterator",data:= .fields #[.ref d, .int 0 0, .int ks.length 0, .int ep 0]}}):
 wpAny (model prog w) A (pyIter (.ref d)) R E s:=by
 have ty:=x.ty
 obtain⟨o,es,ho,_,hdat,hks⟩:=x
 refine wpAny_pyIter_slot ty PySem.F.slot_dict_iter (wpAny_call_entry PySem.F.slot_dict_iter ty PySem.F.entry_dict_iter ?_ (PySem.F.args_dict_iter_1 _))
 unfold Builtin.«dict.__iter__»
 refine wpAny_bind (by unfold Builtin.Dict.dictSlotNone;refine wpAny_bind (wpAny_notOrdered_dict ty ?_);show wpAny _ _ (pure (Value.ref d)) _ _ s;exact wpAny_pure (by
  show wpAny _ _ (Builtin.Dict.showsAll d>>=_) _ _ s
  unfold Builtin.Dict.showsAll
  rw[if_neg (λz=>by rw[nsys] at z;cases z)]
  refine wpAny_bind (wpAny_pure (wpAny_bind (wpAny_dictEntries ho hdat (wpAny_bind (wpAny_dictEpoch ho hdat ?_)))))
  have sz:es.size=ks.length:=by rw[←hks];simp
  refine wpAny_bind (wpAny_newObj_type (wpAny_pure ⟨_,rfl,"dict_keyiterator",_,⟨_,Heap.get?_push_size _ rfl,rfl⟩,PySem.F.slot_dict_keyiterator_next.lookup,?_⟩))
  simpa[rawInt,sz] using q))
theorem zhF{R:Option Value->Shared->Prop}{key:Value}(y:s.heap.IsKeyIter it d i ks.length ep)(x:RawD s.heap d ks ep)(hx:ks[i]?=some key)
 (q:∀h',h'.IsKeyIter it d (i+1) ks.length ep->Heap.SameBut it s.heap h'->R (some key) {s with heap:=h'}):wpAny (model prog w) A (pyNext (.ref it)) R E s:=by
 obtain⟨o,ho,hc,hd⟩:=id y
 obtain⟨od,es,hod,_,hdd,hks⟩:=x
 have sz:es.size=ks.length:=by rw[←hks];simp
 have li:i<ks.length:=by
  rcases Nat.lt_or_ge i ks.length with h|h
  ·exact h
  ·rw[List.getElem?_eq_none h] at hx;cases hx
 have li':i<es.size:=by omega
 have ek:es[i].key=key:=by
  have e1:ks[i]?=some es[i].key:=by rw[←hks];simp[li']
  rw[e1] at hx;exact Option.some.inj hx
 unfold pyNext
 refine wpAny_bind (wpAny_attempt (wpAny_callSpecial?_slot (name:=Str.ofString "__next__") y.typeIs PySem.F.slot_dict_keyiterator_next (wpAny_call_entry PySem.F.slot_dict_keyiterator_next y.typeIs PySem.F.entry_dict_keyiterator_next ?_ (PySem.F.args_dict_keyiterator_next_1 _))))
 refine wpAny_bind (wpAny_pure (wpAny_bind (wpAny_bind ?_)))
 first|refine wpAny_bind (wpAny_typeNameOfWhole_keyiter y.typeIs (wpAny_pure ?_))|refine wpAny_bind (wpAny_typeNameOf_keyiter y.typeIs (wpAny_pure ?_))
 refine wpAny_bind (wpAny_fieldsOf ho hd ?_)
 simp only[(by decide:Builtin.Dict_items.ownsTuple "dict_keyiterator"=false),Bool.false_eq_true,if_false]
 show wpAny _ _ (if(Value.ref d==Value.none)=true then _ else _) _ _ s
 rw[if_neg (λz=>nomatch z)]
 refine wpAny_bind (wpAny_pure (wpAny_bind (wpAny_dictEntries hod hdd ?_)))
 rw[if_neg (λz=>by rw[sz] at z;simp at z)]
 refine wpAny_bind (wpAny_pure (wpAny_bind (wpAny_dictEpoch hod hdd ?_)))
 rw[if_neg (λz=>by simp at z)]
 refine wpAny_pure ?_
 simp only[(by omega:¬((i:Int)<0)),if_false,Int.toNat_natCast,Array.getElem?_eq_getElem li']
 refine wpAny_bind ?_
 first|refine wpAny_bind (wpAny_typeNameOfWhole_keyiter y.typeIs (wpAny_pure ?_))|refine wpAny_bind (wpAny_typeNameOf_keyiter y.typeIs (wpAny_pure ?_))
 refine wpAny_bind (wpAny_isOneOf_keyiter y.typeIs ?_)
 show wpAny _ _ (setField (.ref it) 1 (rawInt ((i:Int)+1))>>=_) _ _ s
 refine wpAny_bind (wpAny_setField ho hd (by simp) ?_)
 have y':(s.heap.update it (Obj.mapFields (·.setIfInBounds 1 (rawInt ((i:Int)+1))))).IsKeyIter it d (i+1) ks.length ep:=⟨_,Heap.get?_update_self _ ho (Obj.isFreed_of_fields (Obj.data_mapFields hd _)),(Obj.cls_mapFields ..).trans hc,by rw[Obj.data_mapFields hd];simp[rawInt]⟩
 refine wpAny_bind (wpAny_holding (wpAny_bind (wpAny_isOneOf_keyiter (s:={s with heap:=s.heap.update it (Obj.mapFields (·.setIfInBounds 1 (rawInt ((i:Int)+1))))}) y'.typeIs ?_)))
 show wpAny _ _ (pure es[i].key) _ _ _
 rw[ek]
 exact wpAny_pure (wpAny_pure ⟨_,rfl,wpAny_pure (q _ y' (Heap.SameBut.update ..))⟩)
theorem zjB{R:Option Value->Shared->Prop}(hh:A.handled=none)(y:s.heap.IsKeyIter it d ks.length ks.length ep)(x:RawD s.heap d ks ep)(q:∀h',Heap.ExtBut it s.heap h'->R none {s with heap:=h'}):wpAny (model prog w) A (pyNext (.ref it)) R E s:=by
 obtain⟨o,ho,hc,hd⟩:=id y
 obtain⟨od,es,hod,_,hdd,hks⟩:=x
 have sz:es.size=ks.length:=by rw[←hks];simp
 unfold pyNext
 refine wpAny_bind (wpAny_attempt (wpAny_callSpecial?_slot (name:=Str.ofString "__next__") y.typeIs PySem.F.slot_dict_keyiterator_next (wpAny_call_entry PySem.F.slot_dict_keyiterator_next y.typeIs PySem.F.entry_dict_keyiterator_next ?_ (PySem.F.args_dict_keyiterator_next_1 _))))
 refine wpAny_bind (wpAny_pure (wpAny_bind (wpAny_bind ?_)))
 first|refine wpAny_bind (wpAny_typeNameOfWhole_keyiter y.typeIs (wpAny_pure ?_))|refine wpAny_bind (wpAny_typeNameOf_keyiter y.typeIs (wpAny_pure ?_))
 refine wpAny_bind (wpAny_fieldsOf ho hd ?_)
 simp only[(by decide:Builtin.Dict_items.ownsTuple "dict_keyiterator"=false),Bool.false_eq_true,if_false]
 show wpAny _ _ (if(Value.ref d==Value.none)=true then _ else _) _ _ s
 rw[if_neg (λz=>nomatch z)]
 refine wpAny_bind (wpAny_pure (wpAny_bind (wpAny_dictEntries hod hdd ?_)))
 rw[if_neg (λz=>by rw[sz] at z;simp at z)]
 refine wpAny_bind (wpAny_pure (wpAny_bind (wpAny_dictEpoch hod hdd ?_)))
 rw[if_neg (λz=>by simp at z)]
 refine wpAny_pure ?_
 simp only[(by omega:¬((ks.length:Int)<0)),if_false,Int.toNat_natCast,Array.getElem?_eq_none (show es.size<=ks.length by omega)]
 refine wpAny_bind ?_
 first|refine wpAny_bind (wpAny_typeNameOfWhole_keyiter y.typeIs (wpAny_pure ?_))|refine wpAny_bind (wpAny_typeNameOf_keyiter y.typeIs (wpAny_pure ?_))
 show wpAny _ _ (setField (.ref it) 0 .none>>=_) _ _ s
 refine wpAny_bind (wpAny_setField ho hd (by simp) ?_)
 show wpAny _ _ (newExc (.type "StopIteration") []>>=_) _ _ _
 refine wpAny_bind (by
  simp only[newExc,newTuple]
  refine wpAny_bind (wpAny_newObj_type (wpAny_bind (m:=firstArgMember _ _) (wpAny_of_eq (a:=Value.none) (by first|rfl|(simp only[firstArgMember];rfl)) (wpAny_newObj_type ?_ (by size_fits)))) (by size_fits))
  simp only[raiseNew]
  refine wpAny_bind (wpAny_handled ?_)
  rw[show A.in1.handled=none from hh]
  refine wpAny_bind (wpAny_pure (wpAny_throw ?_));refine wpAny_bind (wpAny_isInstance (T:="StopIteration") (b:=true) ⟨_,Heap.get?_push_size _ rfl,rfl⟩ isSubtype_stop ?_)
  exact wpAny_pure (q _ (((Heap.SameBut.update ..).extBut.push _).push _)))
theorem zkw(hh:A.handled=none)(hne:d≠it):Walks prog w A it [it,d] [it] ks.length (λi v=>ks[i]?=some v) (λi h=>h.IsKeyIter it d i ks.length ep/\RawD h d ks ep) where
 sub:=λb hb=>by simp at hb;simp[hb]
 frame:=λ_ _ _ st hk=>⟨st.1.at λo e=>hk it (by simp) o e,st.2.at λo e=>hk d (by simp) o e⟩
 item:=λi s Q E hi st hQ=>zhF st.1 st.2 (show ks[i]?=some ks[i] by simp[hi]) λh' y' hs=>hQ _ h' s.toks (by simp[hi]) ⟨y',st.2.at λo e=>hs.extBut d o hne e⟩ λb o hb e=>hs.extBut b o (λh=>hb (by simp[h])) e
 done:=λs Q E st hQ=>zjB hh st.1 st.2 λh' he=>hQ h' s.toks λb o hb e=>he b o (λh=>hb (by simp[h])) e
 self:=λ_ _ _ _ st hQ=>wpAny_pyIter_keyiter st.1 hQ
theorem zjJ(nsys:(d==sysModules)=false):KdlSrc prog w "dict" d d ks.length (λi v=>ks[i]?=some v) (λh=>RawD h d ks ep) where
 type:=λ_ hm=>hm.ty
 there:=λ_ hm=>⟨hm.lt,hm.lt⟩
 keep:=λ_ _ hm hk=>hm.at λo e=>hk d (.inl rfl) o e
 notList:=by decide
 notTuple:=by decide
 hint:=λ_ _ _ _ hm hq=>kdl_hint_dict hm.ty hq
 iter:=λ_ _ hh hm=>⟨_,_,(λ_ _ hq=>zij nsys hm hq),zkw hh (Nat.ne_of_lt hm.lt),⟨⟨_,Heap.get?_push_size _ rfl,rfl,rfl⟩,hm.at λo e=>Heap.get?_push_of_some _ e⟩⟩
end
section
variable{prog:Program}{w:World}{A:Around}{E:Value->Shared->Prop}{s:Shared}
def Kp(a:Addr)(s s1:Shared):Prop:=s1={s with heap:=s1.heap}/\∀b o,b≠a->s.heap.get? b=some o->s1.heap.get? b=some o
theorem zkt{a:Addr}{vs:List Value}{n:Nat}{R:PySem.Fin->Shared->Prop}{G:Array Nat->Prop}{κ:SortKind}(ho:s.heap.get? a=some (seqObj "list" vs.toArray n))(h64:vs.length<64)
 (hk:2<=vs.length->∀s1:Shared,Kp a s s1->(∀C:SortKind->Shared->Prop,C κ s1->wpAny (model prog w) A (keyKind' vs.toArray) C E s1)/\(kas_sort vs.length).kasWp (kas_ask prog w A κ vs) (λp s'=>s'=s1/\G p) s1)
 (q:∀(out:List Value) (h':Heap) (c:Nat),(vs.length<2/\out=vs\/∃p:Array Nat,p.size=vs.length/\G p/\out=p.toList.map λi=>vs.getD i Value.none)->(∀b o,b≠a->s.heap.get? b=some o->h'.get? b=some o)->
   h'.get? a=some (seqObj "list" out.toArray c)->R (.done (.ret .none)) {s with heap:=h'}):wpAny (model prog w) A (Builtin.«list.sort» ⟨[.ref a],[]⟩) R E s:=by
 have la:a<s.heap.objs.size:=Heap.lt_size ho
 have lz:vs.toArray.size=vs.length:=List.size_toArray ..
 have u1:=Heap.SameBut.update s.heap a (Obj.mapSeq λ_=>(#[]:Array Value))
 obtain⟨e1,g1⟩:∃e1,(s.heap.update a (Obj.mapSeq λ_=>(#[]:Array Value))).get? a=some (seqObj "list" #[] e1):=⟨_,get?_update_seq ho λ_=> #[]⟩
 rw[list_sort_plain]
 refine wpAny_bind (listItems_at ho rfl (wpAny_bind (listUpdate_at ho rfl (wpAny_bind (seqEpoch_at g1 rfl (wpAny_bind (wpAny_newTuple (wpAny_bind (wpAny_newList (wpAny_holding ?_) (Nat.zero_le _))) (by show vs.length<=_;rw[sizeLine_eq];omega))))) (by rw[lz,sizeLine_eq];omega) (Nat.zero_le _))))
 generalize hs1:({s with heap:=((s.heap.update a (Obj.mapSeq λ_=>(#[]:Array Value))).push (seqObj "tuple" vs.toArray 0)).push (seqObj "list" #[] 0)}:Shared)=s1
 have kp:∀b o,(s.heap.update a (Obj.mapSeq λ_=>(#[]:Array Value))).get? b=some o->s1.heap.get? b=some o:=λb o e=>by rw[←hs1];exact Heap.get?_push_of_some _ (Heap.get?_push_of_some _ e)
 have k1:Kp a s s1:=⟨by rw[←hs1],λb o nb e=>kp b o ((u1.2 b nb).trans e)⟩
 have g2:s1.heap.get? a=some (seqObj "list" #[] e1):=kp a _ g1
 dsimp only
 have fin:∀(st:SortSt) (out:List Value),(arrOf st).map (·.2)=out.toArray->failedOf st=none->out.length<64->(vs.length<2/\out=vs\/∃p:Array Nat,p.size=vs.length/\G p/\out=p.toList.map λi=>vs.getD i Value.none)->
  wpAny (model prog w) A (do
   let touched:=(←seqEpoch a) !=e1
   Builtin.List.listUpdate (.ref a) λ_=>(arrOf st).map (·.2)
   if let some e:=failedOf st then rule "list.sort.comparison-raised";throw e
   if touched then rule "list.sort.modified";raiseError "ValueError" "list modified during sort"
   ret .none) R E s1:=by
  intro st out ho hf hl hc
  rw[ho]
  have u2:=Heap.SameBut.update s1.heap a (Obj.mapSeq λ_=>out.toArray)
  obtain⟨c2,g3⟩:∃c2,(s1.heap.update a (Obj.mapSeq λ_=>out.toArray)).get? a=some (seqObj "list" out.toArray c2):=⟨_,get?_update_seq g2 λ_=>out.toArray⟩
  refine wpAny_bind (seqEpoch_at g2 rfl (wpAny_bind (listUpdate_at g2 rfl ?_ (Nat.zero_le _) (by show out.toArray.size<=_;rw[List.size_toArray,sizeLine_eq];omega))))
  rw[hf]
  simp only[bne_self_eq_false,Bool.false_eq_true,if_false]
  have:=q out _ c2 hc (λb o nb e=>(u2.2 b nb).trans (k1.2 b o nb e)) g3
  rw[k1.1]
  exact wpAny_pure this
 by_cases h2:vs.toArray.size<2
 ·rw[if_pos h2,if_pos h2]
  refine wpAny_bind (wpAny_pure ?_)
  rw[StateT.run_pure]
  refine wpAny_bind (wpAny_pure ?_)
  refine fin _ vs ?_ rfl h64 (.inl ⟨by omega,rfl⟩)
  apply Array.toList_inj.mp
  show((vs.toArray.zip vs.toArray).map (·.2)).toList=_
  rw[Array.toList_map,Array.toList_zip]
  exact List.map_snd_zip (Nat.le_refl _)
 ·rw[if_neg h2,if_neg h2]
  obtain⟨hkk,hw⟩:=hk (by omega) s1 k1
  refine wpAny_bind (hkk _ ?_)
  refine wpAny_bind (wpAny_mono (kat_run (E:=E) (Q:=λst' s'=>s'=s1/\∃p:Array Nat,p.size=vs.length/\arrOf st'=p.map (kas_item (vs.toArray.zip vs.toArray))/\failedOf st'=none/\G p) rfl (by omega) h64 (λp st' s' x1 x2 x3 x4=>⟨x4.1,p,x1,x2,x3,x4.2⟩) hw) ?_ λ_ _ e=>e)
  rintro⟨⟨⟩,st'⟩ s' ⟨rfl,p,hp,har,hf,hG⟩
  refine fin st' (p.toList.map λi=>vs.getD i Value.none) (kat_snds rfl har) hf (by rw[List.length_map,Array.length_toList,hp];exact h64) (.inr ⟨p,hp,hG,rfl⟩)
theorem zfd{r d:Addr}{T:String}{n:Nat}{Pn:Nat->Value->Prop}{OK:Heap->Prop}{R:List Value->Shared->Prop}(K:KdlSrc prog w T r d n Pn OK)(hh:A.handled=none)(hok:OK s.heap)(hn:n<=sizeLine)
 (q:∀(h':Heap) (tk:Nat) (acc:Array Value),(∀b o,s.heap.get? b=some o->h'.get? b=some o)->s.heap.objs.size<h'.objs.size->ItemsOf Pn acc n->R acc.toList {s with heap:=h',toks:=tk}):wpAny (model prog w) A (collect (.ref r)) R E s:=by
 have lt:=K.there _ hok
 have g0:(s.heap.push {cls:= .type "list",data:= .seq ([]:List Value).toArray}).get? s.heap.objs.size=some {cls:= .type "list",data:= .seq #[]}:=Heap.get?_push_size _ rfl
 have key:=kdl_extend (A:=A) (s:={s with heap:=s.heap.push {cls:= .type "list",data:= .seq ([]:List Value).toArray}}) (R:=λ(f:Result) (s':Shared)=>∃(h':Heap) (tk:Nat) (acc':Array Value) (c':Nat),f= .ok (.ret (.ref s.heap.objs.size))/\s'={s with heap:=h',toks:=tk}/\(∀b o,s.heap.get? b=some o->h'.get? b=some o)/\h'.get? s.heap.objs.size=some {cls:= .type "list",dict:=none,data:= .seq acc' c',slots:= #[]}/\ItemsOf Pn acc' n)
  K hh (K.keep _ _ hok λb _ o e=>Heap.get?_push_of_some _ e) s.heap.objs.size (Nat.ne_of_gt lt.1) (Nat.ne_of_gt lt.2) (.ref s.heap.objs.size) 0 g0 (λh' tk acc' c' kp gS ia=>⟨h',tk,acc',c',rfl,rfl,λb o e=>kp b o (Nat.ne_of_lt (Heap.lt_size e)) (Heap.get?_push_of_some _ e),gS,ia⟩) hn
 unfold collect
 refine wpAny_bind (wpAny_runValue (codeAny_builtin entry_proto_collect' (by
  rw[Around.under_plainId PySem.F.plain_proto_collect _]
  show wpAny _ A.in1 (newList []>>=λl=>again (.builtin "list.__iadd__" ⟨[l, .ref r],[]⟩)) _ _ s
  refine wpAny_bind (wpAny_newObj_type (wpAny_pure ⟨plainId_quiet PySem.F.plain_list_iadd _,codeAny_builtin entry_list_iadd' (by
   rw[Around.under_plainId PySem.F.plain_list_iadd _]
   show wpAny _ A.in1 (Builtin.List.listExtendWith (.ref s.heap.objs.size) (.ref r) (.ref s.heap.objs.size)) _ _ _
   refine wpAny_mono key (λfin s' x=>?_) λe s' x=>?_
   ·cases fin with
    |done f=>
     obtain⟨h',tk,acc',c',e,rfl,kp,gS,ia⟩:=x;cases e
     show wpAny _ A (load s.heap.objs.size>>=_) _ _ _
     exact wpAny_bind (wpAny_load gS (wpAny_pure (q h' tk acc' kp (Heap.lt_size gS) ia)))
    |again c₁=>
     refine⟨x.1,codeAny_mono x.2 λf s₂ y=>?_⟩
     obtain⟨h',tk,acc',c',rfl,rfl,kp,gS,ia⟩:=y
     show wpAny _ A (load s.heap.objs.size>>=_) _ _ _
     exact wpAny_bind (wpAny_load gS (wpAny_pure (q h' tk acc' kp (Heap.lt_size gS) ia)))
   ·obtain ⟨_,_,_,_,e',_⟩:=x
    cases e')⟩)))))
theorem ziJ{r d:Addr}{T:String}{OK:Heap->Prop}{ks:List Value}{R:Value->Shared->Prop}{G:Array Nat->Prop}{κ:SortKind}(K:KdlSrc prog w T r d ks.length (λi v=>ks[i]?=some v) OK)(hh:A.handled=none)(hok:OK s.heap)(h64:ks.length<64)
 (hk:2<=ks.length->∀s1:Shared,(∀b o,s.heap.get? b=some o->s1.heap.get? b=some o)->(∀C:SortKind->Shared->Prop,C κ s1->wpAny (model prog w) A.in1.in1 (keyKind' ks.toArray) C (λ_ _=>False) s1)/\(kas_sort ks.length).kasWp (kas_ask prog w A.in1.in1 κ ks) (λp s'=>s'=s1/\G p) s1)
 (q:∀(D:Addr) (out:List Value) (h':Heap) (tk c:Nat),(ks.length<2/\out=ks\/∃p:Array Nat,p.size=ks.length/\G p/\out=p.toList.map λi=>ks.getD i Value.none)->(∀b o,s.heap.get? b=some o->h'.get? b=some o)->
   s.heap.objs.size<=D->h'.get? D=some (seqObj "list" out.toArray c)->R (.ref D) {s with heap:=h',toks:=tk}):wpAny (model prog w) A (call (.builtin "sorted") [.ref r]) R E s:=by
 refine Calls.call_function_entry kind_sorted plain_sorted entry_sorted (args_sorted1 _) ?_
 unfold Builtin.«sorted»
 refine wpAny_bind (m:=checkCount "sorted" 1 1 _) (wpAny_pure (wpAny_bind (zfd (A:=A.in1) K hh hok (by rw[sizeLine_eq];omega) λh1 tk acc kp gr0 hacc=>?_)))
 have ea:acc.toList=ks:=by
  apply List.ext_getElem?
  intro i
  rcases Nat.lt_or_ge i ks.length with h|h
  ·have hi:i<acc.size:=by rw[hacc.1];exact h
   rw[Array.getElem?_toList,Array.getElem?_eq_getElem hi]
   exact(hacc.2 i acc[i] (by rw[Array.getElem?_eq_getElem hi])).symm
  ·rw[List.getElem?_eq_none h,List.getElem?_eq_none (by rw[Array.length_toList,hacc.1];exact h)]
 rw[ea]
 refine wpAny_bind (wpAny_newList ?_ (by rw[sizeLine_eq];omega))
 have hD:(h1.push (seqObj "list" ks.toArray 0)).get? h1.objs.size=some (seqObj "list" ks.toArray 0):=Heap.get?_push_size _ rfl
 have k2:∀b o,s.heap.get? b=some o->(h1.push (seqObj "list" ks.toArray 0)).get? b=some o:=λb o e=>Heap.get?_push_of_some _ (kp b o e)
 have gr:s.heap.objs.size<=h1.objs.size:=Nat.le_of_lt gr0
 show wpAny _ _ _ _ _ {s with heap:=h1.push (seqObj "list" ks.toArray 0),toks:=tk}
 refine wpAny_bind (wpAny_holding (wpAny_call_entry slot_list_sort ⟨_,hD,rfl⟩ entry_list_sort (zkt (G:=G) (κ:=κ) (s:={s with heap:=h1.push (seqObj "list" ks.toArray 0),toks:=tk}) hD h64 (λh2 s1 k1=>?_) λout h' c hc hkp hg=>?_) (args_list_sort _)))
 ·obtain ⟨x1,x2⟩:=hk h2 s1 λb o e=>k1.2 b o (Nat.ne_of_lt (Nat.lt_of_lt_of_le (Heap.lt_size e) gr)) (k2 b o e)
  exact⟨λC hC=>wpAny_mono (x1 C hC) (λ_ _ z=>z) λ_ _ z=>z.elim,x2⟩
 ·exact ⟨_,rfl,wpAny_pure ⟨_,rfl,q h1.objs.size out h' tk c hc (λb o e=>hkp b o (Nat.ne_of_lt (Nat.lt_of_lt_of_le (Heap.lt_size e) gr)) (k2 b o e)) gr hg⟩⟩
end
noncomputable abbrev ltS(x y:Str):Bool:=decide (x.cps.toList<y.cps.toList)
noncomputable def ltP(p q:Str×Str):Bool:=if p.1=q.1 then(if p.2=q.2 then false else ltS p.2 q.2)else ltS p.1 q.1
theorem zjG:∀(a b:List Nat),a≠b->¬a<b->b<a
 |[],[],h,_=>absurd rfl h
 |[],b::bs,_,h=>absurd (List.nil_lt_cons b bs) h
 |a::as,[],_,_=>List.nil_lt_cons a as
 |a::as,b::bs,h,hn=>by
  rw[List.cons_lt_cons_iff] at hn⊢
  rcases Nat.lt_trichotomy a b with q|q|q
  ·exact absurd (.inl q) hn
  ·subst q
   exact .inr ⟨rfl,zjG as bs (λz=>h (by rw[z])) (λz=>hn (.inr ⟨rfl,z⟩))⟩
  ·exact .inl q
theorem ziR:∀{a b c:List Nat},a<b->b<c->a<c
 |_,[],_,h,_=>absurd h (by simp)
 |_,_::_,[],_,h=>absurd h (by simp)
 |[],_::_,c::cs,_,_=>List.nil_lt_cons c cs
 |a::as,b::bs,c::cs,h1,h2=>by
  rw[List.cons_lt_cons_iff] at h1 h2⊢
  rcases h1 with h1|⟨rfl,h1⟩
  ·rcases h2 with h2|⟨rfl,h2⟩
   ·exact .inl (by omega)
   ·exact .inl h1
  ·rcases h2 with h2|⟨rfl,h2⟩
   ·exact .inl h2
   ·exact .inr ⟨rfl,ziR h1 h2⟩
theorem zhg:∀(a:List Nat),¬a<a
 |[],h=>absurd h (by simp)
 |a::as,h=>by
  rw[List.cons_lt_cons_iff] at h
  rcases h with h|⟨_,h⟩
  ·omega
  ·exact zhg as h
theorem zmw{x y:Str}(h:x.cps.toList=y.cps.toList):x=y:=by
 cases x;cases y
 simp only[Str.mk.injEq]
 exact Array.toList_inj.mp h
theorem zcL{x y:Str}(h:x≠y)(e:ltS x y=false):ltS y x=true:=decide_eq_true (zjG _ _ (λz=>h (zmw z)) (of_decide_eq_false e))
theorem zfl{x y z:Str}(h1:ltS x y=true)(h2:ltS y z=true):ltS x z=true:=decide_eq_true (ziR (of_decide_eq_true h1) (of_decide_eq_true h2))
theorem zeK(x:Str):ltS x x=false:=decide_eq_false (zhg _)
theorem zeJ{x y:Str}(h:ltS x y=true):ltS y x=false:=decide_eq_false λz=>zhg _ (ziR (of_decide_eq_true h) z)
theorem ziY{x y:Str}(h:ltS x y=true):x≠y:=λz=>by rw[z,zeK] at h;cases h
theorem zmN{p q:Str×Str}(h:p≠q)(e:ltP p q=false):ltP q p=true:=by
 unfold ltP at e⊢
 by_cases h1:p.1=q.1
 ·rw[if_pos h1] at e
  rw[if_pos h1.symm]
  have h2:p.2≠q.2:=λz=>h (Prod.ext h1 z)
  rw[if_neg h2] at e
  rw[if_neg (Ne.symm h2)]
  exact zcL h2 e
 ·rw[if_neg h1] at e
  rw[if_neg (Ne.symm h1)]
  exact zcL h1 e
theorem zlA{p q r:Str×Str}(h1:ltP p q=true)(h2:ltP q r=true):ltP p r=true:=by
 unfold ltP at h1 h2⊢
 by_cases e1:p.1=q.1
 ·rw[if_pos e1] at h1
  by_cases e2:q.1=r.1
  ·rw[if_pos e2] at h2
   rw[if_pos (e1.trans e2)]
   by_cases f1:p.2=q.2
   ·rw[if_pos f1] at h1;cases h1
   ·by_cases f2:q.2=r.2
    ·rw[if_pos f2] at h2;cases h2
    ·rw[if_neg f1] at h1
     rw[if_neg f2] at h2
     have:=zfl h1 h2
     rw[if_neg (ziY this)];exact this
  ·rw[if_neg e2] at h2
   rw[if_neg (by rw[e1];exact e2),e1];exact h2
 ·rw[if_neg e1] at h1
  by_cases e2:q.1=r.1
  ·rw[if_neg (by rw[←e2];exact e1),←e2];exact h1
  ·rw[if_neg e2] at h2
   have:=zfl h1 h2
   rw[if_neg (ziY this)];exact this
theorem zg2(p:Str×Str):ltP p p=false:=by unfold ltP;rw[if_pos rfl,if_pos rfl]
theorem zm9{p q:Str×Str}(h:ltP p q=true):ltP q p=false:=by
 cases e:ltP q p with
 |false=>rfl
 |true=>have:=zlA h e;rw[zg2] at this;cases this
theorem zeN:∀(l:List Str),sortedS l=true->l.Nodup->l.Pairwise (λa b=>ltS a b=true)
 |[],_,_=> .nil
 |[x],_,_=>by simp
 |x::y::r,h,hn=>by
  have h':(!ltCps y.cps.toList x.cps.toList&&risingS y r)=true:=h
  rw[Bool.and_eq_true] at h'
  have hr:sortedS (y::r)=true:=h'.2
  have ih:=zeN (y::r) hr (List.nodup_cons.mp hn).2
  have hxy:ltS x y=true:=by
   have h1:ltS y x=false:=by
    have:=h'.1
    rw[ltCps_eq] at this
    simpa using this
   exact zcL (λz=>(List.nodup_cons.mp hn).1 (by rw[z];exact List.mem_cons_self)) h1
  refine List.pairwise_cons.mpr ⟨λz hz=>?_,ih⟩
  rcases List.mem_cons.mp hz with rfl|hz
  ·exact hxy
  ·exact zfl hxy ((List.pairwise_cons.mp ih).1 z hz)
section
variable{X:Cx}
theorem zg8:CallR X (.builtin "sorted") (λxs H Q=>∃(p:Addr) (ss:List Str),xs=[.ref p]/\SqL X.K H p (ss.map V.str)/\ss.length<64/\ss.Nodup/\∀(ss':List Str) l,ss'.Perm ss->ss'.Pairwise (λa b=>ltS a b=true)->H l=none->Q (.ref l) (upd H l (.lst (ss'.map V.str)))):=by
 intro pins s σ H xs us Q I r h
 obtain⟨p,ss,rfl,hq,h64,hnd,q⟩:=h
 obtain⟨u,rfl,ru⟩:=zcN r
 cases ru
 obtain⟨its,rv,pl,hz⟩:=I.list hq
 have hS:=za6 rv
 have hl:=rv.length
 rw[List.length_map] at hl
 refine sorted_strs pl.isList hS (by omega) λout ss' a1 a2 a3=>?_
 have nl:H (s.heap.objs.size+1)=none:=I.hok.fresh (Nat.le_succ _)
 obtain⟨e,he⟩:=sortedAll_at s.heap its out
 have hn':ss'.Nodup:=a2.nodup_iff.mpr hnd
 refine⟨.ref _,_,I.laid (a:=s.heap.objs.size+1) (o:= .lst (ss'.map V.str)) (t':=s.toks) (λb o hb=>sortedAll_old hb) (Nat.le_succ _) ⟨?_,out.toList,e,?_,?_⟩,rfl,q ss' _ a2 (zeN ss' a3 hn') nl⟩
 ·rw[List.length_map,a2.length_eq];exact Nat.le_of_lt (zm (by omega))
 ·have mk:∀{vs:List Value} {zs:List Str},StrsAre vs zs->Vals (zs.map V.str) vs:=by
   intro vs zs h
   induction h with
   |nil=>exact .nil
   |cons x t _ ih=>exact .cons ⟨t,rfl⟩ ih
  exact mk a1
 ·rw[Array.toArray_toList];exact he
def zmt(H:Hp)(vs:List V)(ps:List (Str×Str)):Prop:=vs.length=ps.length/\∀(i:Nat) (v:V) (p:Str×Str),vs[i]?=some v->ps[i]?=some p->∃b,v= .ref b/\H b=some (.tup [.str p.1, .str p.2])
noncomputable def zfF(p:Str×Str):List Key:=[.inr p.1, .inr p.2]
def TupAt(h:Heap)(u:Value)(p:Str×Str):Prop:=∃b o n t1 t2,u= .ref b/\h.get? b=some o/\o.cls= .type "tuple"/\o.data= .seq #[.str p.1 t1, .str p.2 t2] n
theorem TupAt.keeps{h h':Heap}{u:Value}{p:Str×Str}(x:TupAt h u p)(k:∀b o,h.get? b=some o->h'.get? b=some o):TupAt h' u p:=let⟨b,o,n,t1,t2,e,g,r⟩:=x;⟨b,o,n,t1,t2,e,k _ _ g,r⟩
theorem zkX{prog:Program}{w:World}{A:Around}{E:Value->Shared->Prop}{s:Shared}{u v:Value}{p q:Str×Str}{C:Bool->Shared->Prop}(x:TupAt s.heap u p)(y:TupAt s.heap v q)(h:C (ltP p q) s):wpAny (model prog w) A (keyLt' (tuples' true) u v) C E s:=by
 obtain⟨b,o,n,t1,t2,rfl,g,_,d⟩:=x
 obtain⟨b',o',n',t3,t4,rfl,g',_,d'⟩:=y
 refine kat_lt g d g' d' ?_
 show KatLex prog w A true (decide (2<2)) C [(.str p.1 t1, .str q.1 t3),(.str p.2 t2, .str q.2 t4)] 0 s
 unfold ltP at h
 refine kat_cons (wpAny_eqBool_str ?_)
 by_cases e1:p.1=q.1
 ·rw[if_pos e1] at h
  rw[decide_eq_true e1]
  refine kat_yes (kat_cons (wpAny_eqBool_str ?_))
  by_cases e2:p.2=q.2
  ·rw[if_pos e2] at h
   rw[decide_eq_true e2]
   exact kat_yes (kat_nil h)
  ·rw[if_neg e2] at h
   rw[decide_eq_false e2]
   refine kat_no ?_
   show wpAny (model prog w) A (oneLt' false (.str p.2 t2) (.str q.2 t4)) C _ s
   exact kat_one _ _ (lt_str h)
 ·rw[if_neg e1] at h
  rw[decide_eq_false e1]
  refine kat_no ?_
  show wpAny (model prog w) A (oneLt' true (.str p.1 t1) (.str q.1 t3)) C _ s
  exact oneLt_str h
theorem zjv{h:Heap}:∀{us:List Value} {ps:List (Str×Str)},us.length=ps.length->(∀(i:Nat) (u:Value) (p:Str×Str),us[i]?=some u->ps[i]?=some p->TupAt h u p)->∃fs,KatTups h us fs/\fs.length=us.length/\∀f∈fs,∃x t,f=Value.str x t
 |[],[],_,_=>⟨[],trivial,rfl,λ_ z=>nomatch z⟩
 |[],_::_,z,_=>by simp at z
 |_::_,[],z,_=>by simp at z
 |u::us,p::ps,hl,hx=>by
  obtain⟨fs,h1,h2,h3⟩:=zjv (us:=us) (ps:=ps) (by simpa using hl) λi u p e1 e2=>hx (i+1) u p (by simpa using e1) (by simpa using e2)
  obtain⟨b,o,n,t1,t2,rfl,g,c,d⟩:=hx 0 u p rfl rfl
  refine⟨.str p.1 t1::fs,KatTups.cons g c d rfl h1,by simp[h2],λf hf=>?_⟩
  rcases List.mem_cons.mp hf with rfl|hf
  ·exact ⟨_,_,rfl⟩
  ·exact h3 f hf
noncomputable def pAt(ps:List (Str×Str))(i:Nat):Str×Str:=ps.getD i (⟨#[]⟩,⟨#[]⟩)
theorem zgR{ps:List (Str×Str)}(hn:ps.Nodup):RW.Strict ps.length (λi j=>ltP (pAt ps i) (pAt ps j)) where
 tot:=λi j hi hj hij e=>zmN (λz=>hij ((List.getElem_inj hn (h₀:=hi) (h₁:=hj)).mp (by unfold pAt at z;simpa[hi,hj] using z))) e
 tr:=λi j k _ _ _ h1 h2=>zlA h1 h2
 asy:=λi j _ _ h=>zm9 h
theorem zkd{ps:List (Str×Str)}{p:Array Nat}(hp:RW.PermN ps.length p)(hs:RW.Sor (λi j=>ltP (pAt ps i) (pAt ps j)) p ps.length):(p.toList.map (pAt ps)).Perm ps/\(p.toList.map (pAt ps)).Pairwise (λa b=>ltP a b=true):=by
 constructor
 ·have h1:=hp.map (pAt ps)
  have h2:(List.range ps.length).map (pAt ps)=ps:=by
   apply List.ext_getElem?
   intro i
   rw[List.getElem?_map]
   rcases Nat.lt_or_ge i ps.length with h|h
   ·rw[List.getElem?_range h]
    show some (pAt ps i)=_
    unfold pAt
    simp[h]
   ·rw[List.getElem?_eq_none (by simpa using h),List.getElem?_eq_none h];rfl
  rwa[h2] at h1
 ·have hz:=hp.size
  rw[List.pairwise_iff_getElem]
  intro i j hi hj hij
  have hi':i<p.size:=by simpa using hi
  have hj':j<p.size:=by simpa using hj
  have h:=hs i j hij (by omega)
  rw[RW.gd_get hi',RW.gd_get hj'] at h
  simpa using h
theorem zdC{α β:Type}{R:α->β->Prop}:∀{as:List α} {bs:List β},Paired R as bs->as.length=bs.length/\∀(i:Nat) (a:α) (b:β),as[i]?=some a->bs[i]?=some b->R a b
 |_,_, .nil=>⟨rfl,λi a b e=>by simp at e⟩
 |_,_, .cons h t=>by
  obtain⟨h1,h2⟩:=zdC t
  refine⟨by simp[h1],λi a b e1 e2=>?_⟩
  cases i with
  |zero=>simp at e1 e2;subst e1;subst e2;exact h
  |succ i=>exact h2 i a b (by simpa using e1) (by simpa using e2)
theorem zgD(hc:X.calm=true):CallR X (.builtin "sorted") (λxs H Q=>∃(d:Addr) (kvs:List (List Key×V)) (ps:List (Str×Str)),xs=[.ref d]/\H d=some (.dT kvs)/\kvs.map (·.1)=ps.map zfF/\ps.length<64/\
 ∀(ps':List (Str×Str)) (vs:List V) l,ps'.Perm ps->ps'.Pairwise (λa b=>ltP a b=true)->zmt H vs ps'->H l=none->Q (.ref l) (upd H l (.lst vs))):=by
 intro pins s σ H xs us Q I r h
 obtain⟨d,kvs,ps,rfl,hd,hk,h64,q⟩:=h
 obtain⟨u,rfl,ru⟩:=zcN r
 cases ru
 obtain⟨_,nsys,zs,hp,o,es,ep,g,ex,dat,hes,hnd⟩:=(show ObjOk X.prog X.w H s.heap d (.dT kvs)from I.hok d _ hd)
 obtain⟨hl,hget⟩:=zdC hp
 have hlk:kvs.length=ps.length:=by have:=congrArg List.length hk;simpa using this
 have hnp:ps.Nodup:=by
  have e:zs.map (·.1)=kvs.map (·.1):=by
   apply List.ext_getElem?
   intro i
   rw[List.getElem?_map,List.getElem?_map]
   rcases Nat.lt_or_ge i kvs.length with h|h
   ·have h':i<zs.length:=by omega
    have:=(hget i kvs[i] zs[i] (by simp[h]) (by simp[h'])).1
    simp[h,h',this]
   ·rw[List.getElem?_eq_none h,List.getElem?_eq_none (by omega)];rfl
  rw[e,hk] at hnd
  exact(List.pairwise_map.mp hnd).imp λh z=>h (by rw[z])
 have kz:(zs.map λq=>Value.ref q.2.1).length=ps.length:=by rw[List.length_map];omega
 have raw:RawD s.heap d (zs.map λq=>Value.ref q.2.1) ep:=⟨o,es,g,ex,dat,by rw[hes,List.map_map];rfl⟩
 have keyA:∀i (h:i<ps.length),∃b,(zs.map λq=>Value.ref q.2.1)[i]?=some (.ref b)/\H b=some (.tup [.str ps[i].1, .str ps[i].2]):=λi h=>by
  have h1:i<kvs.length:=by omega
  have h2:i<zs.length:=by omega
  have hr:=hget i kvs[i] zs[i] (by simp[h1]) (by simp[h2])
  refine⟨zs[i].2.1,by simp[h2],?_⟩
  have ek:kvs[i].1=zfF ps[i]:=by
   have e1:(kvs.map (·.1))[i]?=some kvs[i].1:=by simp[h1]
   rw[hk] at e1
   have e2:(ps.map zfF)[i]?=some (zfF ps[i]):=by simp[h]
   rw[e1] at e2
   exact Option.some.inj e2
  rw[hr.2.1,ek]
  rfl
 have keyT:∀(i:Nat) (u:Value) (p:Str×Str),(zs.map λq=>Value.ref q.2.1)[i]?=some u->ps[i]?=some p->TupAt s.heap u p:=λi u p e1 e2=>by
  have hi:i<ps.length:=by
   rcases Nat.lt_or_ge i ps.length with z|z
   ·exact z
   ·rw[List.getElem?_eq_none z] at e2;cases e2
  obtain⟨b,f1,f2⟩:=keyA i hi
  rw[f1] at e1
  cases e1
  have ep':ps[i]=p:=by simpa[hi] using e2
  rw[ep'] at f2
  obtain⟨_,its,rv,⟨o',g',c',n',d'⟩,_⟩:=(show ObjOk X.prog X.w H s.heap b (.tup [.str p.1, .str p.2])from I.hok b _ f2)
  cases rv with
  |cons r1 rv=>cases rv with
   |cons r2 rv=>cases rv with
    |nil=>
     obtain⟨t1,rfl⟩:=r1
     obtain⟨t2,rfl⟩:=r2
     exact⟨b,o',n',t1,t2,rfl,g',c',d'⟩
 generalize hks:(zs.map λq=>Value.ref q.2.1)=ks at *
 refine ziJ (A:=X.A) (G:=λp=>RW.PermN ps.length p/\RW.Sor (λi j=>ltP (pAt ps i) (pAt ps j)) p ps.length) (κ:=tuples' true) (zjJ (ks:=ks) (ep:=ep) nsys) (I.ok.hd hc) raw (by omega) (λh2 s1 k1=>?_) (λD out h' tk c ho kp hD gD=>?_)
 ·have keyT1:∀(i:Nat) (u:Value) (p:Str×Str),ks[i]?=some u->ps[i]?=some p->TupAt s1.heap u p:=λi u p e1 e2=>(keyT i u p e1 e2).keeps k1
  obtain⟨fs,ft,fl,fa⟩:=zjv kz keyT1
  refine⟨λC hC=>kat_kind (T:= .type "str") ft (by omega) (λf hf=>?_) rfl hC,?_⟩
  ·obtain ⟨x,t,rfl⟩:=fa f hf
   exact Looks.of_pure rfl
  ·rw[kz]
   refine RW.OkT.wp (N:=ps.length) (lt:=λi j=>ltP (pAt ps i) (pAt ps j)) (I:=λs'=>s'=s1) (λi j C s' hi hj e hC=>?_) (λp s' hp e=>⟨e,hp⟩) rfl (RW.sort_ok (zgR hnp) (by omega))
   subst e
   have gi:∀i,i<ps.length->TupAt s'.heap (ks.getD i Value.none) (pAt ps i):=λi hi=>by
    have hi':i<ks.length:=by omega
    refine keyT1 i _ _ ?_ ?_
    ·simp[hi']
    ·unfold pAt;simp[hi]
   exact zkX (gi i hi) (gi j hj) (hC s' rfl)
 ·
  have nD:H D=none:=I.hok.fresh hD
  obtain⟨ps',hperm,hpw,hout⟩:∃ps':List (Str×Str),ps'.Perm ps/\ps'.Pairwise (λa b=>ltP a b=true)/\out.length=ps'.length/\∀(i:Nat) (u:Value) (p:Str×Str),out[i]?=some u->ps'[i]?=some p->∃b,u= .ref b/\H b=some (.tup [.str p.1, .str p.2]):=by
   rcases ho with⟨hlt,rfl⟩|⟨p,hp,⟨hP,hS⟩,rfl⟩
   ·refine ⟨ps, .refl _,?_,kz,λi u p e1 e2=>?_⟩
    ·match ps,(show ps.length<2 by omega)with
     |[],_=>exact .nil
     |[x],_=>exact List.pairwise_singleton _ _
    ·have hi:i<ps.length:=by
      rcases Nat.lt_or_ge i ps.length with z|z
      ·exact z
      ·rw[List.getElem?_eq_none z] at e2;cases e2
     obtain⟨b,f1,f2⟩:=keyA i hi
     rw[f1] at e1;cases e1
     have ep':ps[i]=p:=by simpa[hi] using e2
     rw[ep'] at f2
     exact⟨b,rfl,f2⟩
   ·obtain ⟨o1,o2⟩:=zkd hP hS
    refine⟨p.toList.map (pAt ps),o1,o2,by rw[List.length_map,List.length_map],λi u q e1 e2=>?_⟩
    rw[List.getElem?_map] at e1 e2
    cases hpi:p.toList[i]? with
    |none=>rw[hpi] at e1;cases e1
    |some j=>
     rw[hpi] at e1 e2
     have hj:j<ps.length:=List.mem_range.mp (hP.mem_iff.mp (List.mem_of_getElem? hpi))
     obtain⟨b,f1,f2⟩:=keyA j hj
     have hj':j<ks.length:=by omega
     have eu:ks.getD j Value.none= .ref b:=by
      rw[List.getD_eq_getElem?_getD,f1];rfl
     have e1':some (ks.getD j Value.none)=some u:=e1
     rw[eu] at e1'
     have e2':some (pAt ps j)=some q:=e2
     have eq:pAt ps j=ps[j]:=by unfold pAt;simp[hj]
     rw[eq] at e2'
     cases e1'
     cases e2'
     exact⟨b,rfl,f2⟩
  obtain⟨hol,hog⟩:=hout
  have hall:∀u∈out,∃b,u=Value.ref b:=λu hu=>by
   obtain⟨i,hi,rfl⟩:=List.getElem_of_mem hu
   obtain⟨b,e,_⟩:=hog i out[i] (ps'[i]'(by omega)) (by simp[hi]) (by simp[show i<ps'.length by omega])
   exact⟨b,e⟩
  obtain⟨vs,rvs⟩:∃vs:List V,Vals vs out/\∀(i:Nat) (b:Addr),out[i]?=some (.ref b)->vs[i]?=some (.ref b):=by
   clear hog hol gD ho
   induction out with
   |nil=>exact ⟨[], .nil,λi b e=>by simp at e⟩
   |cons u out ih=>
    obtain⟨vs,h1,h2⟩:=ih λu hu=>hall u (List.mem_cons_of_mem _ hu)
    obtain⟨b,rfl⟩:=hall u List.mem_cons_self
    refine⟨.ref b::vs, .cons rfl h1,λi b' e=>?_⟩
    cases i with
    |zero=>simpa using e
    |succ i=>exact h2 i b' (by simpa using e)
  have lv:vs.length=out.length:=rvs.1.length
  refine⟨.ref D,_,I.laid (a:=D) (o:= .lst vs) (t':=tk) kp hD ⟨by rw[lv,hol,hperm.length_eq];exact Nat.le_of_lt (zm (by omega)),out,c,rvs.1,gD⟩,rfl,q ps' vs D hperm hpw ⟨by omega,λi v p e1 e2=>?_⟩ nD⟩
  have hi:i<out.length:=by
   rcases Nat.lt_or_ge i out.length with z|z
   ·exact z
   ·rw[List.getElem?_eq_none (by omega)] at e1;cases e1
  obtain⟨b,f1,f2⟩:=hog i out[i] p (by simp[hi]) e2
  have:=rvs.2 i b (by rw[←f1];simp[hi])
  rw[this] at e1
  cases e1
  exact⟨b,rfl,f2⟩
end
noncomputable def zio(a c:Str)(t u:Tok)(i:Nat):Value:=if i=0 then .str a t else .str c u
section
variable{prog:Program}{w:World}{A:Around}{E:Value->Shared->Prop}{s:Shared}
theorem zgV{a c:Str}{t u:Tok}{i:Nat}{v:Value}(h:(#[Value.str a t,Value.str c u])[i]?=some v):(i=0/\v= .str a t)\/(i=1/\v= .str c u):=by
 match i,h with
 |0,h=>exact .inl ⟨rfl,by simpa using h.symm⟩
 |1,h=>exact .inr ⟨rfl,by simpa using h.symm⟩
 |i+2,h=>simp at h
theorem zgB{a c:Str}{t u:Tok}{R:Value->Shared->Prop}(hh:A.handled=none)(q:∀h' tk,(∀b o,s.heap.get? b=some o->h'.get? b=some o)->R (if ltS a c=true then .str c u else .str a t) {s with heap:=h',toks:=tk}):
 wpAny (model prog w) A (call (.builtin "max") [.str a t, .str c u]) R E s:=by
 have hT:(s.heap.push {cls:= .type "tuple",data:= .seq #[.str a t, .str c u]}).IsTuple s.heap.objs.size #[.str a t, .str c u]:=⟨_,Heap.get?_push_size _ rfl,rfl,0,rfl⟩
 have z:(s.heap.push {cls:= .type "tuple",data:= .seq #[.str a t, .str c u]}).objs.size=s.heap.objs.size+1:=Heap.size_push ..
 refine call_max_two (wpAny_pyIter_tuple hT ?_)
 refine⟨_,[_,s.heap.objs.size],[_],_,_,_,λi j=>ltS (strOf (zio a c t u j)) (strOf (zio a c t u i)),rfl,Walks.tuple (A:=A.in1) hh _ s.heap.objs.size (by rw[z];exact Nat.ne_of_lt (Nat.lt_succ_self _)) #[.str a t, .str c u],⟨⟨_,Heap.get?_push_size _ rfl,rfl,rfl⟩,hT.push _⟩,λb hb=>?_,(by decide:0<2),?_,λv h' tk hP hk=>?_⟩
 ·show b<((s.heap.push _).push _).objs.size
  rw[Heap.size_push,z]
  rcases List.mem_cons.mp hb with rfl|hb
  ·rw[z];exact Nat.lt_succ_self _
  ·rcases List.mem_cons.mp hb with rfl|hb
   ·exact Nat.lt_succ_of_lt (Nat.lt_succ_self _)
   ·cases hb
 ·intro i j vi vj s' R' E' hi hj hq
  rcases zgV hi with⟨rfl,rfl⟩|⟨rfl,rfl⟩<;>rcases zgV hj with⟨rfl,rfl⟩|⟨rfl,rfl⟩<;>exact (PySem.P.gt_str hq:wpAny (model prog w) A.in1 (compareOp .Gt _ _) R' E' s')
 ·have keep:∀b o,s.heap.get? b=some o->h'.get? b=some o:=λb o e=>hk b o (λhm=>by
   rcases List.mem_cons.mp hm with e1|hm
   ·have lb:=Heap.lt_size e
    rw[e1,z] at lb
    exact absurd lb (Nat.not_lt.mpr (Nat.le_succ _))
   ·cases hm) (Heap.get?_push_of_some _ (Heap.get?_push_of_some _ e))
  have fin:=q h' tk keep
  have eb:argBest (λi j=>ltS (strOf (zio a c t u j)) (strOf (zio a c t u i))) (2 -1)=if ltS a c=true then 1 else 0:=rfl
  have hP':(#[Value.str a t,Value.str c u])[if ltS a c=true then 1 else 0]?=some v:=hP
  by_cases hc:ltS a c=true
  ·rw[if_pos hc] at hP' fin
   have ev:Value.str c u=v:=by simpa using hP'
   rw[←ev];exact fin
  ·rw[if_neg hc] at hP' fin
   have ev:Value.str a t=v:=by simpa using hP'
   rw[←ev];exact fin
theorem zhb{a c:Str}{t u:Tok}{R:Value->Shared->Prop}(hh:A.handled=none)(q:∀h' tk,(∀b o,s.heap.get? b=some o->h'.get? b=some o)->R (if ltS c a=true then .str c u else .str a t) {s with heap:=h',toks:=tk}):
 wpAny (model prog w) A (call (.builtin "min") [.str a t, .str c u]) R E s:=by
 have hT:(s.heap.push {cls:= .type "tuple",data:= .seq #[.str a t, .str c u]}).IsTuple s.heap.objs.size #[.str a t, .str c u]:=⟨_,Heap.get?_push_size _ rfl,rfl,0,rfl⟩
 have z:(s.heap.push {cls:= .type "tuple",data:= .seq #[.str a t, .str c u]}).objs.size=s.heap.objs.size+1:=Heap.size_push ..
 refine call_min_two (wpAny_pyIter_tuple hT ?_)
 refine⟨_,[_,s.heap.objs.size],[_],_,_,_,λi j=>ltS (strOf (zio a c t u i)) (strOf (zio a c t u j)),rfl,Walks.tuple (A:=A.in1) hh _ s.heap.objs.size (by rw[z];exact Nat.ne_of_lt (Nat.lt_succ_self _)) #[.str a t, .str c u],⟨⟨_,Heap.get?_push_size _ rfl,rfl,rfl⟩,hT.push _⟩,λb hb=>?_,(by decide:0<2),?_,λv h' tk hP hk=>?_⟩
 ·show b<((s.heap.push _).push _).objs.size
  rw[Heap.size_push,z]
  rcases List.mem_cons.mp hb with rfl|hb
  ·rw[z];exact Nat.lt_succ_self _
  ·rcases List.mem_cons.mp hb with rfl|hb
   ·exact Nat.lt_succ_of_lt (Nat.lt_succ_self _)
   ·cases hb
 ·intro i j vi vj s' R' E' hi hj hq
  rcases zgV hi with⟨rfl,rfl⟩|⟨rfl,rfl⟩<;>rcases zgV hj with⟨rfl,rfl⟩|⟨rfl,rfl⟩<;>exact (lt_str hq:wpAny (model prog w) A.in1 (compareOp .Lt _ _) R' E' s')
 ·have keep:∀b o,s.heap.get? b=some o->h'.get? b=some o:=λb o e=>hk b o (λhm=>by
   rcases List.mem_cons.mp hm with e1|hm
   ·have lb:=Heap.lt_size e
    rw[e1,z] at lb
    exact absurd lb (Nat.not_lt.mpr (Nat.le_succ _))
   ·cases hm) (Heap.get?_push_of_some _ (Heap.get?_push_of_some _ e))
  have fin:=q h' tk keep
  have eb:argBest (λi j=>ltS (strOf (zio a c t u i)) (strOf (zio a c t u j))) (2 -1)=if ltS c a=true then 1 else 0:=rfl
  have hP':(#[Value.str a t,Value.str c u])[if ltS c a=true then 1 else 0]?=some v:=hP
  by_cases hc:ltS c a=true
  ·rw[if_pos hc] at hP' fin
   have ev:Value.str c u=v:=by simpa using hP'
   rw[←ev];exact fin
  ·rw[if_neg hc] at hP' fin
   have ev:Value.str a t=v:=by simpa using hP'
   rw[←ev];exact fin
end
section
variable{X:Cx}
theorem zfn(hc:X.calm=true):CallR X (.builtin "max") (λxs H Q=>∃a c,xs=[.str a, .str c]/\Q (.str (if ltS a c=true then c else a)) H):=by
 intro pins s σ H xs us Q I r h
 obtain⟨i,j,rfl,q⟩:=h
 obtain⟨u,w',rfl,⟨t,rfl⟩,⟨t',rfl⟩⟩:=zih r
 refine zgB (I.ok.hd hc) λh' tk k=>⟨_,H,I.kept k,?_,q⟩
 by_cases hj:ltS i j=true
 ·rw[if_pos hj,if_pos hj];exact⟨_,rfl⟩
 ·rw[if_neg hj,if_neg hj];exact⟨_,rfl⟩
theorem zeR(hc:X.calm=true):CallR X (.builtin "min") (λxs H Q=>∃a c,xs=[.str a, .str c]/\Q (.str (if ltS c a=true then c else a)) H):=by
 intro pins s σ H xs us Q I r h
 obtain⟨i,j,rfl,q⟩:=h
 obtain⟨u,w',rfl,⟨t,rfl⟩,⟨t',rfl⟩⟩:=zih r
 refine zhb (I.ok.hd hc) λh' tk k=>⟨_,H,I.kept k,?_,q⟩
 by_cases hj:ltS j i=true
 ·rw[if_pos hj,if_pos hj];exact⟨_,rfl⟩
 ·rw[if_neg hj,if_neg hj];exact⟨_,rfl⟩
end
section
open PySem.SeqAt
open PySem.AutoSeq1 (wpAny_loadPart')
open PySem.MeetsSeq PySem.MeetsSeq2 PySem.MeetsSeq3
end
section
variable{X:Cx}{K:PySem.W.Frag}
noncomputable def zn2(K:PySem.W.Frag):R2:=λx y H Q=>∃a b xs ys,x= .ref a/\y= .ref b/\SqT K H a xs/\SqT K H b ys/\xs.length+ys.length<=sizeLine/\
 (xs=[]->Q (.ref b) H)/\(xs≠ []->ys=[]->Q (.ref a) H)/\(xs≠ []->ys≠ []->∀p,H p=none->Q (.ref p) (upd H p (.tup (xs ++ys))))
theorem zdO:OpR X (binaryOp .Add) (zn2 X.K):=by
 intro pins s σ H x y v u Q I rx ry h
 obtain⟨a,b,xs,ys,rfl,rfl,ha,hb,hz,q0,q1,q2⟩:=h
 by_cases hx:xs=[]
 ·cases rx
  cases ry
  obtain⟨its,r1,p1,_⟩:=I.tuple ha
  obtain⟨its2,r2,p2,_⟩:=I.tuple hb
  have e1:its=[]:=r1.nil_iff.mpr hx
  obtain⟨⟨cls,dd,data,sl⟩,ho,hc,n,hd⟩:=id p1
  obtain⟨⟨cls2,dd2,data2,sl2⟩,ho2,hc2,n2,hd2⟩:=id p2
  simp only at hc hd hc2 hd2
  subst hc hd hc2 hd2
  exact concat_meets ⟨_,ho,rfl⟩ ⟨_,ho2,rfl⟩ noFill_tuple_add seq_tuple_add PySem.F.slot_tuple_add PySem.F.entry_tuple_add (PySem.F.args_tuple_add_2 _ _) (tuple_addW0 a b its.toArray its2.toArray n n2 dd dd2 sl sl2 (by simp[e1])) ⟨ho,ho2,⟨.ref b,H,I,rfl,q0 hx⟩⟩
 ·exact znB pins s σ H _ _ v u Q I rx ry ⟨a,b,xs,ys,rfl,rfl,ha,hb,hx,hz,q1 hx,q2 hx⟩
end
section
open PySem.AutoSeq1 (wpAny_loadPart')
end
section
variable{X:Cx}{K:PySem.W.Frag}
theorem hu1{k:Nat}{A:Around}(r:Room k A):A.units+1<cLine:=by have:=r.units;omega
end
section
variable{X:Cx}{a b o i value:Expr}{x y:Str}{px py pt pt2 pos pos':Pos}{kt k2:Nat}{ta:TA}{td ty tv:TE}
theorem znY(m n:Nat)(hN:X.N.Nodup)(ha:QA X [a,b] ta)(hc:X.calm=true:=by rfl)(hi:X.N[m]?=some x:=by rfl)(hj:X.N[n]?=some y:=by rfl)(hij:m≠n:=by decide)
 (hx:X.env.scope.names.lookup x=some .local:=by rfl) (hy:X.env.scope.names.lookup y=some .local:=by rfl)
 (hw:swappedStores [.Tuple [.Name x px, .Name y py] kt pt] (.Tuple [a,b] k2 pt2) X.env=pure (some [x,y]):=by rfl)
 (hs:swapsWithSole [.Tuple [.Name x px, .Name y py] kt pt] (.Tuple [a,b] k2 pt2) pos.line X.env=pure false:=by rfl):
 QS X (.Assign [.Tuple [.Name x px, .Name y py] kt pt] (.Tuple [a,b] k2 pt2) pos) (zpH m n ta):=⟨zox hc hN hi hj hij hx hy ha.o hw hs⟩
theorem zc0(hu:X.A.units+1<cLine)(ho:QE X o td)(hi:QE X i ty)(hv:QE X value tv)(hs:swapsWith value (some (.Subscript o i pos')) pos.line X.env=pure false:=by rfl):
 QS X (.Assign [.Subscript o i pos'] value pos) (zod td ty tv):=⟨zm4 hu ho.o hi.o hv.o hs⟩
theorem znL:QE X (.Dict [] [] pos) zkZ:=⟨zlF⟩
end
end L2
namespace RW
open PySem PySem.Spec PyProof.Rows L2
noncomputable def ltD:D->D->Bool
 | .str x, .str y=>ltS x y
 | .tup [.str a, .str b], .tup [.str c, .str d]=>ltP (a,b) (c,d)
 |_,_=>false
noncomputable def zmL(ds:List D):Bool:=(List.range (ds.length -1)).all λk=>ltD (ds.getD k .non) (ds.getD (k+1) .non)
noncomputable def areHousesB:D->Bool| .tup ds=>decide (1<=ds.length)&&decide (ds.length<=10)&&ds.all zdm&&zmL ds|_=>false
noncomputable def zbI:D->Bool| .tup ds=>decide (ds.length<=90)&&ds.all zL|_=>false
noncomputable def zbY:D->Bool| .tup ds=>decide (ds.length<=90)&&ds.all zbW|_=>false
theorem zj9(z:Str)(n:Nat):(ze9 z n).cps.toList=(List.replicate n z.cps.toList).flatten:=by
 unfold ze9
 have key:∀(k:Nat) (acc:Array Nat),((List.replicate k z.cps).foldl (·++·) acc).toList=acc.toList ++(List.replicate k z.cps.toList).flatten:=by
  intro k
  induction k with
  |zero=>intro acc;simp
  |succ k ih=>intro acc;rw[List.replicate_succ,List.foldl_cons,ih,List.replicate_succ,List.flatten_cons,Array.toList_append,List.append_assoc]
 have:=key n #[]
 simpa using this
theorem zcq(c n:Nat):(ze9 (one c) n).cps.toList=List.replicate n c:=by
 rw[zj9]
 show(List.replicate n [c]).flatten=_
 induction n with
 |zero=>rfl
 |succ n ih=>rw[List.replicate_succ,List.flatten_cons,ih,List.replicate_succ];rfl
noncomputable def zjl(x:Str):Bool:=x.cps.toList.all λc=>some c==x.cps.toList.head?
theorem zhJ(c n:Nat):zjl (ze9 (one c) n)=true:=by
 unfold zjl
 rw[zcq]
 cases n with
 |zero=>rfl
 |succ n=>
  rw[List.all_eq_true]
  intro d hd
  rw[List.eq_of_mem_replicate hd]
  simp[List.replicate_succ]
noncomputable def keptL:List Str:=["goal","to","by","houses","tie","like","hand","keep","put","mark","long","from","strike"]
theorem znn:∀x∈keptL,zi x=true:=by decide +kernel
theorem zkO:∀x∈keptL,zjl x=false:=by decide +kernel
theorem zmx:∀c∈lettersS.cps.toList,∀k∈List.range 8,zi (ze9 (one c) (k+1))=true:=by decide +kernel
theorem zii:lettersS.length=26:=by decide +kernel
theorem ze0:∀k∈List.range 26,lettersS.cps.toList[k]?=some (97+k):=by decide +kernel
theorem zjn(c:Nat):(one c).length=1:=rfl
noncomputable def zl9:List Nat:=[1,3,5,7,9,11]
theorem zld:∀f∈List.range 26,∀st∈zl9,((List.range 13).map λk=>(f+st*k)%26).Nodup:=by decide +kernel
noncomputable def nmS(f st k:Nat):Str:=ze9 (one (97+(f+st*k)%26)) (1+(k*k+f)%8)
noncomputable def kwS(sp k:Nat):Str:=keptL.getD ((sp+3*k)%13) ""
noncomputable def zbk(f st sp j k:Nat):Str:=if k<j then kwS sp k else nmS f st k
theorem zoL:∀sp∈List.range 13,((List.range 4).map λk=>kwS sp k).Nodup:=by decide +kernel
theorem ziP(sp k:Nat):kwS sp k∈keptL:=by
 unfold kwS
 have h:(sp+3*k)%13<keptL.length:=Nat.mod_lt _ (by decide)
 simp[List.getD,h]
theorem zmd{α:Type}{l:List α}(h:l.Nodup){i j:Nat}(hi:i<l.length)(hj:j<l.length)(hij:i≠j):l[i]≠l[j]:=λz=>hij ((List.getElem_inj h).mp z)
theorem zhm{f st sp j m:Nat}(hf:f<26)(hst:st∈zl9)(hsp:sp<13)(hj:j<=4)(hm:m<=13):((List.range m).map (zbk f st sp j)).Nodup:=by
 have key:∀a b,a<b->b<13->zbk f st sp j a≠zbk f st sp j b:=by
  intro a b hab hb
  unfold zbk
  by_cases h1:a<j
  ·rw[if_pos h1]
   by_cases h2:b<j
   ·rw[if_pos h2]
    have:=zmd (zoL sp (List.mem_range.mpr hsp)) (i:=a) (j:=b) (by simp;omega) (by simp;omega) (by omega)
    simpa using this
   ·rw[if_neg h2]
    intro z
    have e1:=zkO _ (ziP sp a)
    rw[z] at e1
    unfold nmS at e1
    rw[zhJ] at e1
    cases e1
  ·rw[if_neg h1,if_neg (by omega)]
   intro z
   have hh:(nmS f st a).cps.toList.head?=(nmS f st b).cps.toList.head?:=by rw[z]
   unfold nmS at hh
   rw[zcq,zcq,Nat.add_comm 1,Nat.add_comm 1,List.replicate_succ,List.replicate_succ] at hh
   simp only[List.head?_cons,Option.some.injEq] at hh
   have:=zmd (zld f (List.mem_range.mpr hf) st hst) (i:=a) (j:=b) (by simp;omega) (by simp;omega) (by omega)
   simp at this
   omega
 rw[List.nodup_iff_pairwise_ne,List.pairwise_map]
 refine List.Pairwise.imp_of_mem (λ{a b} ha hb hab=>?_) (List.pairwise_lt_range (n:=m))
 exact key a b hab (by have:=List.mem_range.mp hb;omega)
theorem zpA(f st k:Nat):zi (nmS f st k)=true:=by
 unfold nmS
 rw[Nat.add_comm 1]
 have hr:(f+st*k)%26<26:=Nat.mod_lt _ (by decide)
 exact zmx _ (List.mem_of_getElem? (ze0 _ (List.mem_range.mpr hr))) _ (List.mem_range.mpr (Nat.mod_lt _ (by decide)))
theorem znK(f st sp j k:Nat):zi (zbk f st sp j k)=true:=by
 unfold zbk
 split
 ·exact znn _ (ziP sp k)
 ·exact zpA f st k
theorem zkS{f st sp j m:Nat}(hj:j<m):((List.range m).map (zbk f st sp j)).set j (kwS sp j)=(List.range m).map (zbk f st sp (j+1)):=by
 apply List.ext_getElem?
 intro i
 rw[List.getElem?_set]
 by_cases e:j=i
 ·subst e
  rw[if_pos rfl,if_pos (by simp;exact hj)]
  simp[hj,zbk]
 ·rw[if_neg e]
  rcases Nat.lt_or_ge i m with h|h
  ·rw[List.getElem?_map,List.getElem?_map,List.getElem?_range h]
   show some _=some _
   congr 1
   unfold zbk
   by_cases h1:i<j
   ·rw[if_pos h1,if_pos (by omega)]
   ·rw[if_neg h1,if_neg (by omega)]
  ·rw[List.getElem?_eq_none (by simpa using h),List.getElem?_eq_none (by simpa using h)]
theorem znz{sp k:Nat}:keptL[(sp+3*k)%13]?=some (kwS sp k):=by
 unfold kwS
 have h:(sp+3*k)%13<keptL.length:=Nat.mod_lt _ (by decide)
 simp[List.getD,h]
theorem zlK{xs:List V}{m:Nat}:zdn xs (some (m:Int)) none=xs.drop m:=by
 unfold zdn
 have e1:HT.sIx xs.length xs.length none=xs.length:=rfl
 have e2:HT.sIx xs.length 0 (some (m:Int))=min m xs.length:=by
  unfold HT.sIx
  have h:¬(m:Int)<0:=by omega
  simp only[if_neg h,Int.toNat_natCast]
 rw[e1,e2]
 rcases Nat.lt_or_ge m xs.length with h|h
 ·rw[Nat.min_eq_left (by omega),List.take_of_length_le (by rw[List.length_drop];omega)]
 ·rw[Nat.min_eq_right h,List.drop_of_length_le (Nat.le_refl _),List.drop_of_length_le h];simp
theorem zen{J:It}{N:Nat}{Pw:Nat->V->Prop}{ok:Hp->Prop}{a:Addr}{m c:Int}{Pd:Nat->D->Prop}{H:Hp}{te:TE}{src:List (Option Nat)}{σ σr:L2.St}{Q:VK}(wk:Wk J N Pw ok)(hok:∀H',Keep a H H'->ok H')(hs:zfV src σ=none::σr)(hH:Hand H a m)(hN:N<=900)(hc:0<=c)
 (he:∀(i:Nat) (x:V) (H1:Hp) (Q1:VK),i<N->Hand H1 a (m+c*i)->Keep a H H1->(∀v d H2,Rep H2 v d->Pd i d->Hand H2 a (m+c*i+c)->Keep a H1 H2->Q1 v H2)->te (some x::σr) H1 Q1)
 (q:∀l vs ds H',H l=none->H' l=some (.lst vs)->RepL H' vs ds->ds.length=N->(∀i d,ds[i]?=some d->Pd i d)->Hand H' a (m+c*N)->Keep a H H'->Q (.ref l) H'):zef (zcw 0) zny te src σ Q J H:=by
 refine zbv wk (λl i ys σ' H'=>(∃o,σ'=o::σr)/\(∃ds:List D,RepL H' ys ds/\ds.length=i/\∀j d,ds[j]?=some d->Pd j d)/\Hand H' a (m+c*i)/\Keep a H H') ?_ (λ_ _ _ _ _ _ p=>hok _ p.2.2.2) ?_ ?_
 ·exact λl hl=>⟨⟨_,hs⟩,⟨[],RepL.nil,rfl,λj d z=>by simp at z⟩,(hH.new hl).mono (by simp),Keep.new hl⟩
 ·rintro l i y ys σ' H1 hl hi hy ⟨⟨o,rfl⟩,⟨ds,hr,hl2,hp⟩,hH1,k1⟩ hl'
  have nl:=hH.ne hl
  refine he i y H1 _ hi hH1 k1 λv d H2 rv pd hH2 k2=>?_
  have hl2':H2 l=some (.lst ys):=k2 _ _ nl hl'
  have m2:Mono H1 H2:=Mono.keep k2 hH1 hH2
  have m3:Mono H2 (upd H2 l (.lst (ys ++ [v]))):=Mono.lset hl2'
  refine⟨hl2',?_,⟨_,rfl⟩,⟨ds ++ [d],((hr.mono m2).append (.cons rv .nil)).mono m3,?_,?_⟩,(hH2.updNe nl).mono ?_,(k1.trans k2).updNew hl⟩
  ·have:=hr.1
   exact zm (by omega)
  ·rw[List.length_append,hl2];rfl
  ·intro j e he
   by_cases hj:j<ds.length
   ·rw[List.getElem?_append_left hj] at he
    exact hp j e he
   ·rw[List.getElem?_append_right (by omega)] at he
    have hj2:j=ds.length:=by
     rcases Nat.lt_or_ge ds.length j with z|z
     ·rw[List.getElem?_eq_none (by simp;omega)] at he;cases he
     ·omega
    subst hj2
    simp at he
    subst he
    rw[hl2];exact pd
  ·rw[show((i+1:Nat):Int)=(i:Int)+1 by omega,Int.mul_add,Int.mul_one]
   omega
 ·rintro l ys σ' H1 hl ⟨⟨o,rfl⟩,⟨ds,hr,hl2,hp⟩,hH1,k1⟩ hl'
  exact q l ys ds H1 hl hl' hr hl2 hp hH1 k1
noncomputable def pairD(p:Str×Str):D:= .tup [.str p.1, .str p.2]
structure TownOk(g:Str)(hs:List Str)(ps:List (Str×Str))(lks hds:List D):Prop where
 rise:hs.Pairwise (λa b=>ltS a b=true)
 one:1<=hs.length
 ten:hs.length<=10
 names:∀x∈hs,zi x=true
 goal:g∈hs
 riseP:ps.Pairwise (λa b=>ltP a b=true)
 ties:∀p∈ps,p.1∈hs/\p.2∈hs/\ltS p.1 p.2=true
 ll:lks.length=hs.length
 lh:hds.length=hs.length
 likes:∀d∈lks,zbI d=true
 hands:∀d∈hds,zbY d=true
noncomputable def zar(g:Str)(hs:List Str)(ps:List (Str×Str))(lks hds:List D):D:= .tup [.str g, .tup (hs.map D.str), .tup (ps.map pairD), .tup lks, .tup hds]
section
variable{te tf:TE}{ta:TA}{tb:TS}{De:Ends}{σ:L2.St}{H:Hp}{d:D}{ds es:List D}{K:PySem.W.Frag}{k:Nat}
end
section
variable{te tf:TE}{σ:L2.St}{H:Hp}{d:D}{ds es:List D}{K:PySem.W.Frag}
theorem zjs{J:It}{vs:List V}{f:D->D}{g:D->Bool}{ok:Hp->Prop}{tc:TT}{src:List (Option Nat)}{σr:L2.St}{Q:VK}(wk:Wk J vs.length (λi x=>vs[i]?=some x) ok)(hok:∀H',Same H H'->ok H')(r:RepL H vs ds)(hl:ds.length<=900)(e:zfV src σ=none::σr)
 (hc:∀(x:V) (d:D) (H1:Hp) (Q1:Bool->Hp->Prop),Same H H1->Rep H1 x d->d∈ds->(∀H2,Same H1 H2->Q1 (g d) H2)->tc (some x::σr) H1 Q1)
 (he:∀(x:V) (d:D) (H1:Hp),Same H H1->Rep H1 x d->d∈ds->Dsp te (some x::σr) H1 (f d))
 (q:∀l us H',Same H H'->H l=none->H' l=some (.lst us)->RepL H' us ((ds.filter g).map f)->Q (.ref l) H'):zef (zcw 0) tc te src σ Q J H:=by
 refine zbv wk (λl i ys σ' H'=>(∃o,σ'=o::σr)/\RepL H' ys (((ds.take i).filter g).map f)/\Same H H') ?_ ?_ ?_ ?_
 ·exact λl h'=>⟨⟨none,e⟩,RepL.nil,Same.new h'⟩
 ·exact λl i ys σ' H' _ p=>hok H' p.2.2
 ·rintro l i y ys σ' H1 h' hi hy ⟨⟨o,rfl⟩,ry,s1⟩ hl'
  obtain⟨d,hd,rd⟩:=r.get hy
  refine hc y d H1 _ s1 (rd.same s1) (List.mem_of_getElem? hd) λH2 s2=>?_
  have tk:((ds.take (i+1)).filter g).map f=((ds.take i).filter g).map f ++([d].filter g).map f:=by
   rw[List.take_add_one,hd,List.filter_append,List.map_append];rfl
  rw[tk]
  cases hg:g d with
  |false=>
   have e0:([d].filter g).map f=[]:=by simp[hg]
   rw[e0,List.append_nil]
   exact⟨s2 _ _ hl',⟨_,rfl⟩,ry.mono (.of s2),s1.trans s2⟩
  |true=>
   have e0:([d].filter g).map f=[f d]:=by simp[hg]
   rw[e0]
   refine he y d H2 (s1.trans s2) ((rd.same s1).same s2) (List.mem_of_getElem? hd) H2 _ (Same.refl _) λv H3 s3 rv=>?_
   refine⟨s3 _ _ (s2 _ _ hl'),?_,⟨_,rfl⟩,?_,?_⟩
   ·have h1:=ry.1
    have h2:=List.length_filter_le g (ds.take i)
    rw[List.length_map] at h1
    rw[List.length_take] at h2
    exact zm (by omega)
   ·exact ((ry.mono (.of (s2.trans s3))).append (.cons rv .nil)).mono (.lset (s3 _ _ (s2 _ _ hl')))
   ·exact λc o e=>by
     rw[ze (zh e h')]
     exact s3 _ _ (s2 _ _ (s1 _ _ e))
 ·rintro l ys σ' H1 h' ⟨⟨o,rfl⟩,ry,s1⟩ hl'
  rw[r.1,List.take_length] at ry
  exact q l ys H1 s1 h' hl' ry
end
theorem zhQ{H:Hp}{hs:List Str}(h:∀x∈hs,x.length<=1000):RepL H (hs.map V.str) (hs.map D.str):=by
 refine⟨by rw[List.length_map,List.length_map],λi v d hv hd=>?_⟩
 rw[List.getElem?_map] at hv hd
 cases e:hs[i]? with
 |none=>rw[e] at hv;cases hv
 |some x=>
  rw[e] at hv hd
  cases hv
  cases hd
  exact .str x (h x (List.mem_of_getElem? e))
theorem zig{α β:Type}{F:α->List β}{m:Nat}(hF:∀a,(F a).length<=m):∀l:List α,(l.flatMap F).length<=l.length*m
 |[]=>Nat.zero_le _
 |a::l=>by
  rw[List.flatMap_cons,List.length_append,List.length_cons,Nat.succ_mul]
  have:=zig hF l
  have:=hF a
  omega
inductive Tr(H:Hp):V->PyData->Prop
 |non:Tr H .non .none
 |bl (b:Bool):Tr H (.bl b) (.bool b)
 |int (i:Int):Tr H (.int i) (.int i)
 |str (x:Str) (h:PyData.strOk x=true):Tr H (.str x) (.str x)
 |tup {p:Addr} {vs:List V} {ds:List PyData} (e:H p=some (.tup vs)) (hl:vs.length=ds.length) (h:∀(i:Nat) (v:V) (d:PyData),vs[i]?=some v->ds[i]?=some d->Tr H v d):Tr H (.ref p) (.tuple ds)
 |lst {p:Addr} {vs:List V} {ds:List PyData} (e:H p=some (.lst vs)) (hl:vs.length=ds.length) (h:∀(i:Nat) (v:V) (d:PyData),vs[i]?=some v->ds[i]?=some d->Tr H v d):Tr H (.ref p) (.list ds)
theorem za8{h:Heap}:∀{vs:List V} {us:List Value} {ds:List PyData},Vals vs us->vs.length=ds.length->(∀(i:Nat) (v:V) (d:PyData),vs[i]?=some v->ds[i]?=some d->∀u,RelV v u->∃as,Reads h u d as)->∃bs,ReadsAll h us ds bs
 |_,_,[], .nil,_,_=>⟨_, .nil⟩
 |v::vs,u::us,d::ds, .cons r t,hl,hh=>by
  obtain⟨as,ha⟩:=hh 0 v d rfl rfl u r
  obtain⟨bs,hb⟩:=za8 t (by simpa using hl) λi v' d' h1 h2=>hh (i+1) v' d' h1 h2
  exact⟨_, .cons ha hb⟩
 |[],_,d::ds, .nil,hl,_=>by simp at hl
 |v::vs,u::us,[], .cons r t,hl,_=>by simp at hl
theorem Tr.reads{X:Cx}{pins:List (Addr×Obj)}{σ:L2.St}{H:Hp}{s:Shared}(I:Inv X pins σ H s){x:V}{d:PyData}(t:Tr H x d):∀v,RelV x v->∃as,Reads s.heap v d as:=by
 induction t with
 |non=>intro v r;cases r;exact⟨_, .none⟩
 |bl b=>intro v r;cases r;exact⟨_, .bool b⟩
 |int i=>intro v r;obtain⟨t,rfl⟩:=r;exact⟨_, .int i t⟩
 |str x h=>intro v r;obtain⟨t,rfl⟩:=r;exact⟨_, .str x t⟩
 |tup e hl h ih=>
  intro v r
  cases r
  obtain⟨its,rv,⟨o,ho,hc,n,hd⟩,_⟩:=I.tuple (SqT.of e)
  obtain⟨bs,hb⟩:=za8 (h:=s.heap) rv hl ih
  exact⟨_, .tuple ho hc hd (by simpa using hb)⟩
 |lst e hl h ih=>
  intro v r
  cases r
  obtain⟨its,n,rv,ho,_⟩:=I.lst e
  obtain⟨bs,hb⟩:=za8 (h:=s.heap) rv hl ih
  exact⟨_, .list ho rfl rfl (by simpa using hb)⟩
theorem zb0:∀{vs:List V} {ds:List PyData},vs.length=ds.length->(∀(i:Nat) (v:V) (d:PyData),vs[i]?=some v->ds[i]?=some d->d.canLay0=true)->PyData.canLayAll0 ds=true
 |_,[],_,_=>rfl
 |v::vs,d::ds,hl,hh=>by
  rw[PyData.canLayAll0,hh 0 v d rfl rfl,zb0 (vs:=vs) (ds:=ds) (by simpa using hl) λi v' d' h1 h2=>hh (i+1) v' d' h1 h2];rfl
 |[],d::ds,hl,_=>by simp at hl
theorem Tr.can{H:Hp}{x:V}{d:PyData}(t:Tr H x d):d.canLay0=true:=by
 induction t with
 |non=>rfl
 |bl b=>rfl
 |int i=>rfl
 |str x h=>simp only[PyData.canLay0];exact h
 |tup e hl h ih=>rw[PyData.canLay0];exact zb0 hl ih
 |lst e hl h ih=>rw[PyData.canLay0];exact zb0 hl ih
section
variable{X:Cx}
noncomputable def zp8:R2:=λx y H Q=>∃d e,Tr H x d/\Tr H y e/\min d.depth e.depth<=60/\Q (.bl (d.eqv e)) H
noncomputable def zqe:R2:=λx y H Q=>∃d e,Tr H x d/\Tr H y e/\min d.depth e.depth<=60/\Q (.bl (!d.eqv e)) H
theorem zlV(hu:X.A.units+64<cLine):OpR X (compareOp .Eq) zp8:=by
 intro pins s σ H x y v u Q I rx ry h
 obtain⟨d,e,t1,t2,hd,q⟩:=h
 obtain⟨as,r1⟩:=t1.reads I v rx
 obtain⟨bs,r2⟩:=t2.reads I u ry
 exact SeqAt.compareEq_reads r1 r2 t1.can t2.can (by omega) ⟨.bl _,H,I,rfl,q⟩
theorem zlb(hu:X.A.units+64<cLine):OpR X (compareOp .NotEq) zqe:=by
 intro pins s σ H x y v u Q I rx ry h
 obtain⟨d,e,t1,t2,hd,q⟩:=h
 obtain⟨as,r1⟩:=t1.reads I v rx
 obtain⟨bs,r2⟩:=t2.reads I u ry
 exact SeqAt.compareNe_reads r1 r2 t1.can t2.can (by omega) ⟨.bl _,H,I,rfl,q⟩
theorem ziz{k:Nat}{A:Around}(r:Room k A):A.units+64<cLine:=by have:=r.un;omega
end
end RW
namespace HT
open PySem PySem.Spec PyProof.Rows
section
variable{prog:Program}{w:World}{A:Around}{E:Value->Shared->Prop}{s:Shared}
end
end HT
namespace L2
open PySem PySem.Spec PyProof.Rows
section
variable{X:Cx}{e:Expr}{te:TE}{p1 p2 p3 pos:Pos}{tk:Tok}
end
end L2
namespace HT
open PySem PySem.Spec PyProof.Rows
section
variable{prog:Program}{w:World}{A:Around}{E:Value->Shared->Prop}{s:Shared}
end
end HT
namespace L2
open PySem PySem.Spec PyProof.Rows
section
variable{X:Cx}{K:PySem.W.Frag}
end
end L2
namespace RW
open PySem PySem.Spec PyProof.Rows L2
section
variable{te tf:TE}{ta:TA}{σ:L2.St}{H:Hp}{d:D}{ds es:List D}{K:PySem.W.Frag}
end
theorem zkB:∀x∈keptL,x≠"nowhere":=by decide +kernel
theorem zkP:zjl "nowhere"=false:=by decide +kernel
theorem zke(f st sp j k:Nat):zbk f st sp j k≠"nowhere":=by
 unfold zbk
 split
 ·exact zkB _ (ziP sp k)
 ·intro z
  have e:=zkP
  rw[←z] at e
  unfold nmS at e
  rw[zhJ] at e
  cases e
section
variable{te:TE}{ta:TA}{tb:TS}{De:Ends}{σ:L2.St}{H:Hp}{d:D}{ds es:List D}{K:PySem.W.Frag}{k j:Nat}{g:D->Bool}{l lf:Addr}{m:Nat}
end
section
variable{x h t l a:D}
end
section
variable{te tf:TE}{ta:TA}{tb:TS}{De:Ends}{σ:L2.St}{H:Hp}{d:D}{ds es:List D}{K:PySem.W.Frag}{k j:Nat}{g:D->Bool}{m:Nat}
theorem zbp{H H':Hp}{p:Addr}(s:Same H H')(h:H' p=none):H p=none:=by
 cases e:H p with
 |none=>rfl
 |some o=>have:=s _ _ e;rw[h] at this;cases this
end
theorem zaj{x:Str}(h:zi x=true):PyData.strOk x=true:=by
 unfold zi at h
 simp only[Bool.and_eq_true] at h
 have h2:=h.1.2
 unfold PyData.strOk
 rw[Array.all_eq_true']
 intro c hc
 have:=List.all_eq_true.mp h2 c (by simpa using hc)
 unfold zjF at this
 simp only[Bool.and_eq_true,decide_eq_true_eq] at this
 exact decide_eq_true (by omega)
theorem zct{α:Type}[DecidableEq α]:∀{l m:List α},l.Nodup->(∀x∈l,x∈m)->l.length<=m.length
 |[],m,_,_=>Nat.zero_le _
 |a::l,m,hn,hs=>by
  have ha:=hs a List.mem_cons_self
  have:=zct (l:=l) (m:=m.erase a) (List.nodup_cons.mp hn).2 λx hx=>(List.mem_erase_of_ne (λz:x=a=>(List.nodup_cons.mp hn).1 (by rw[←z];exact hx))).mpr (hs x (List.mem_cons_of_mem _ hx))
  rw[List.length_erase_of_mem ha] at this
  have:1<=m.length:=List.length_pos_of_mem ha
  rw[List.length_cons]
  omega
theorem TownOk.lp{g:Str}{hs:List Str}{ps:List (Str×Str)}{lks hds:List D}(T:TownOk g hs ps lks hds):ps.length<=100:=by
 have nd:ps.Nodup:=T.riseP.imp λ{a b} h z=>by rw[z,zg2] at h;cases h
 have:=zct (m:=hs.flatMap λa=>hs.map λb=>(a,b)) nd λp hp=>by
  obtain⟨h1,h2,_⟩:=T.ties p hp
  exact List.mem_flatMap.mpr ⟨p.1,h1,List.mem_map.mpr ⟨p.2,h2,rfl⟩⟩
 have h2:=zig (F:=λa=>hs.map λb=>(a,b)) (m:=10) (λa=>by rw[List.length_map];exact T.ten) hs
 have:=T.ten
 omega
end RW
namespace RW
theorem zbA{b:Bool}{X Y:Prop}(h:b=true)(x:X):if b=true then X else Y:=by rw[if_pos h];exact x
theorem zbM{b:Bool}{X Y:Prop}(h:b=false)(y:Y):if b=true then X else Y:=by rw[if_neg (by rw[h];decide)];exact y
end RW
namespace L2
open PySem PySem.W PySem.Spec PyProof.Rows
section
variable{prog:Program}{w:World}{A:Around}{E:Value->Shared->Prop}{s:Shared}
theorem zhv{r:Addr}{T:String}{o:Obj}{vs:List Value}{n:Nat}{R:List Value->Shared->Prop}(hT:T="list"\/T="tuple")(ho:s.heap.get? r=some o)(hc:o.cls= .type T)(hd:o.data= .seq vs.toArray n)(hz:vs.length<=sizeLine)
 (q:∀(h':Heap),(∀b o,s.heap.get? b=some o->h'.get? b=some o)->s.heap.objs.size<h'.objs.size->R vs {s with heap:=h'}):wpAny (model prog w) A (collect (.ref r)) R E s:=by
 have lt:=Heap.lt_size ho
 have hne:r≠s.heap.objs.size:=Nat.ne_of_lt lt
 have g0:(s.heap.push {cls:= .type "list",data:= .seq ([]:List Value).toArray}).get? s.heap.objs.size=some (seqObj "list" #[] 0):=Heap.get?_push_size _ rfl
 have gr:(s.heap.push {cls:= .type "list",data:= .seq ([]:List Value).toArray}).get? r=some o:=Heap.get?_push_of_some _ ho
 obtain⟨e1,g1⟩:∃e1,((s.heap.push {cls:= .type "list",data:= .seq ([]:List Value).toArray}).update s.heap.objs.size (Obj.mapSeq λx=>x ++vs.toArray)).get? s.heap.objs.size=some (seqObj "list" ((#[]:Array Value)++vs.toArray) e1):=⟨_,get?_update_seq g0 λx=>x ++vs.toArray⟩
 have u1:=Heap.SameBut.update (s.heap.push {cls:= .type "list",data:= .seq ([]:List Value).toArray}) s.heap.objs.size (Obj.mapSeq λx=>x ++vs.toArray)
 unfold collect
 refine wpAny_bind (wpAny_runValue (codeAny_builtin entry_proto_collect' (by
  rw[Around.under_plainId PySem.F.plain_proto_collect _]
  show wpAny _ A.in1 (newList []>>=λl=>again (.builtin "list.__iadd__" ⟨[l, .ref r],[]⟩)) _ _ s
  refine wpAny_bind (wpAny_newObj_type (wpAny_pure ⟨plainId_quiet PySem.F.plain_list_iadd _,codeAny_builtin entry_list_iadd' (by
   rw[Around.under_plainId PySem.F.plain_list_iadd _]
   show wpAny _ A.in1 (Builtin.List.listExtendWith (.ref s.heap.objs.size) (.ref r) (.ref s.heap.objs.size)) _ _ _
   unfold Builtin.List.listExtendWith
   have hty:({s with heap:=s.heap.push {cls:= .type "list",data:= .seq ([]:List Value).toArray}}:Shared).TypeIs (.ref r) T:=⟨o,gr,hc⟩
   refine wpAny_bind (wpAny_typeOf hty ?_)
   rw[if_pos (by rcases hT with rfl|rfl<;>simp)]
   refine wpAny_bind (listItems_at gr hd (wpAny_bind (listItems_at g0 rfl ?_)))
   rw[if_neg (by simp)]
   refine wpAny_bind (listUpdate_at g0 rfl ?_ (Nat.zero_le _) (by show((#[]:Array Value)++vs.toArray).size<=_;simp;omega))
   refine wpAny_pure ?_
   show wpAny _ A (load s.heap.objs.size>>=_) _ _ _
   refine wpAny_bind (wpAny_load g1 (wpAny_pure ?_))
   have ev:((#[]:Array Value)++vs.toArray).toList=vs:=by simp
   show R ((#[]:Array Value)++vs.toArray).toList _
   rw[ev]
   exact q _ (λb o e=>(u1.2 b (Nat.ne_of_lt (Heap.lt_size e))).trans (Heap.get?_push_of_some _ e)) (Heap.lt_size g1))⟩)))))
theorem zex{l:Addr}{T:String}{o:Obj}{vs:List Value}{n:Nat}{ss:List Str}{Q:Value->Shared->Prop}(hT:T="list"\/T="tuple")(ho:s.heap.get? l=some o)(hc:o.cls= .type T)(hd:o.data= .seq vs.toArray n)(hS:StrsAre vs ss)(h64:vs.length<64)
 (q:∀(D:Addr) (out:Array Value) (ss':List Str) (h':Heap) (e:Nat),StrsAre out.toList ss'->ss'.Perm ss->sortedS ss'=true->(∀b o,s.heap.get? b=some o->h'.get? b=some o)->s.heap.objs.size<=D->h'.get? D=some (seqObj "list" out e)->Q (.ref D) {s with heap:=h'}):
 wpAny (model prog w) A (call (.builtin "sorted") [.ref l]) Q E s:=by
 refine Calls.call_function_entry kind_sorted plain_sorted entry_sorted (args_sorted1 _) ?_
 unfold Builtin.«sorted»
 refine wpAny_bind (m:=checkCount "sorted" 1 1 _) (wpAny_pure (wpAny_bind (zhv hT ho hc hd (by rw[sizeLine_eq];omega) λh1 kp gr0=>?_)))
 refine wpAny_bind (wpAny_newList ?_ (by show vs.length<=_;rw[sizeLine_eq];omega))
 have hD:(h1.push (seqObj "list" vs.toArray 0)).get? h1.objs.size=some (seqObj "list" vs.toArray 0):=Heap.get?_push_size _ rfl
 have k2:∀b o,s.heap.get? b=some o->(h1.push (seqObj "list" vs.toArray 0)).get? b=some o:=λb o e=>Heap.get?_push_of_some _ (kp b o e)
 have gr:s.heap.objs.size<=h1.objs.size:=Nat.le_of_lt gr0
 show wpAny _ _ _ _ _ {s with heap:=h1.push (seqObj "list" vs.toArray 0)}
 refine wpAny_bind (wpAny_holding (wpAny_call_entry slot_list_sort ⟨_,hD,rfl⟩ entry_list_sort (list_sort_treeK strKind_oneLt (s:={s with heap:=h1.push (seqObj "list" vs.toArray 0)}) hD hS.keysOf (λv1 v2 rest e=>?_) h64 λst' hp hs=>?_) (args_list_sort _)))
 ·subst e
  exact keyKind_strs hS
 ·obtain ⟨ss',a1,a2,a3⟩:=sorted_out_str hS hp hs
  obtain⟨e,he⟩:=sortedHeap_at (h:=h1.push (seqObj "list" vs.toArray 0)) (vs:=vs) (out:=Array.map (λx=>x.snd) (arrOf st')) hD
  refine⟨_,rfl,wpAny_pure ⟨_,rfl,q h1.objs.size _ ss' _ e a1 a2 a3 (λb o hb=>?_) gr he⟩⟩
  have lb:=Heap.lt_size hb
  rw[sortedHeap_old (Nat.ne_of_lt (Nat.lt_of_lt_of_le lb gr)) (Heap.lt_size (k2 b o hb))]
  exact k2 b o hb
end
section
variable{X:Cx}{K:PySem.W.Frag}
def zmS(K:PySem.W.Frag):List V->Hp->VK->Prop:=λxs H Q=>∃(p:Addr) (ss:List Str),xs=[.ref p]/\(SqL K H p (ss.map V.str)\/SqT K H p (ss.map V.str))/\ss.length<64/\∀(ss':List Str) l,ss'.Perm ss->sortedS ss'=true->H l=none->Q (.ref l) (upd H l (.lst (ss'.map V.str)))
theorem zdT:CallR X (.builtin "sorted") (zmS X.K):=by
 intro pins s σ H xs us Q I r h
 obtain⟨p,ss,rfl,hq,h64,q⟩:=h
 obtain⟨u,rfl,ru⟩:=zcN r
 cases ru
 have key:∀{its:List Value} {T:String} {o:Obj} {n:Nat},T="list"\/T="tuple"->s.heap.get? p=some o->o.cls= .type T->o.data= .seq its.toArray n->Vals (ss.map V.str) its->wpAny (model X.prog X.w) X.A (call (.builtin "sorted") [.ref p]) (EP X pins σ Q) X.xe s:=by
  intro its T o n hT ho hc hd rv
  have hS:=za6 rv
  have hl:=rv.length
  rw[List.length_map] at hl
  refine zex hT ho hc hd hS (by omega) λD out ss' h' e a1 a2 a3 kp hD he=>?_
  refine⟨.ref D,_,I.laid (a:=D) (o:= .lst (ss'.map V.str)) (t':=s.toks) kp hD ⟨?_,out.toList,e,?_,?_⟩,rfl,q ss' D a2 a3 (I.hok.fresh hD)⟩
  ·rw[List.length_map,a2.length_eq];exact Nat.le_of_lt (zm (by omega))
  ·have mk:∀{vs:List Value} {zs:List Str},StrsAre vs zs->Vals (zs.map V.str) vs:=by
    intro vs zs h
    induction h with
    |nil=>exact .nil
    |cons x t _ ih=>exact .cons ⟨t,rfl⟩ ih
   exact mk a1
  ·rw[Array.toArray_toList];exact he
 rcases hq with hq|hq
 ·obtain ⟨its,rv,pl,hz⟩:=I.list hq
  obtain⟨o,ho,hc,n,hd⟩:=pl.isList
  exact key (.inl rfl) ho hc hd rv
 ·obtain ⟨its,rv,pl,hz⟩:=I.tuple hq
  obtain⟨o,ho,hc,n,hd⟩:=pl
  exact key (.inr rfl) ho hc hd rv
end
end L2
namespace RW
open PySem PySem.Spec PyProof.Rows L2
theorem zeL{hs:List Str}{x:Str}:inV (.str x) (hs.map V.str)=hs.any λy=>decide (y=x):=by
 unfold inV
 rw[List.any_map]
 congr 1
theorem zdh{hs:List Str}:(hs.map V.str).all zdN=true:=by
 rw[List.all_map,List.all_eq_true]
 exact λ_ _=>rfl
theorem zhX{H:Hp}{v:V}{xs:List Str}(h:Rep H v (.tup (xs.map D.str))):∃p,v= .ref p/\H p=some (.tup (xs.map V.str)):=by
 obtain⟨p,vs,rfl,hp,r,_⟩:=h.ofT
 refine⟨p,rfl,?_⟩
 have e:vs=xs.map V.str:=by
  apply List.ext_getElem?
  intro i
  rcases Nat.lt_or_ge i xs.length with hi|hi
  ·have hv:i<vs.length:=by rw[r.1,List.length_map];exact hi
   have:=r.2 i vs[i] (.str xs[i]) (by simp[hv]) (by simp[hi])
   rw[List.getElem?_eq_getElem hv,List.getElem?_map,List.getElem?_eq_getElem hi]
   generalize vs[i]=z at this
   cases this
   rfl
  ·rw[List.getElem?_eq_none (by rw[r.1,List.length_map];exact hi),List.getElem?_eq_none (by rw[List.length_map];exact hi)]
 rw[←e];exact hp
theorem zqj{H:Hp}{v:V}{d1 d2 d3 d4 d5:D}(h:Rep H v (.tup [d1,d2,d3,d4,d5])):∃p x1 x2 x3 x4 x5,v= .ref p/\H p=some (.tup [x1,x2,x3,x4,x5])/\Rep H x1 d1/\Rep H x2 d2/\Rep H x3 d3/\Rep H x4 d4/\Rep H x5 d5:=by
 obtain⟨p,vs,rfl,hp,r,_⟩:=h.ofT
 match vs,r with
 |[x1,x2,x3,x4,x5],r=>exact ⟨p,x1,x2,x3,x4,x5,rfl,hp,r.head.1,r.head.2.head.1,r.head.2.head.2.head.1,r.head.2.head.2.head.2.head.1,r.head.2.head.2.head.2.head.2.head.1⟩
 |[],r=>exact absurd r.1 (by simp)
 |[_],r=>exact absurd r.1 (by simp)
 |[_,_],r=>exact absurd r.1 (by simp)
 |[_,_,_],r=>exact absurd r.1 (by simp)
 |[_,_,_,_],r=>exact absurd r.1 (by simp)
 |_::_::_::_::_::_::_,r=>exact absurd r.1 (by simp)
def zpe(H:Hp)(v:V)(g:Str)(hs:List Str)(ps:List (Str×Str))(lks hds:List D):Prop:=∃p pr pt pl pa vt vl va,v= .ref p/\H p=some (.tup [.str g, .ref pr, .ref pt, .ref pl, .ref pa])/\H pr=some (.tup (hs.map V.str))/\H pt=some (.tup vt)/\RepL H vt (ps.map RW.pairD)/\H pl=some (.tup vl)/\RepL H vl lks/\H pa=some (.tup va)/\RepL H va hds
theorem zeM{H:Hp}{v:V}{g:Str}{hs:List Str}{ps:List (Str×Str)}{lks hds:List D}(h:Rep H v (zar g hs ps lks hds)):zpe H v g hs ps lks hds:=by
 obtain⟨p,x1,x2,x3,x4,x5,rfl,hp,r1,r2,r3,r4,r5⟩:=zqj h
 cases r1 with|str _ _=>
 obtain⟨pr,rfl,hpr⟩:=zhX r2
 obtain⟨pt,vt,rfl,hpt,rt,_⟩:=r3.ofT
 obtain⟨pl,vl,rfl,hpl,rl,_⟩:=r4.ofT
 obtain⟨pa,va,rfl,hpa,ra,_⟩:=r5.ofT
 exact⟨p,pr,pt,pl,pa,vt,vl,va,rfl,hp,hpr,hpt,rt,hpl,rl,hpa,ra⟩
noncomputable def zey(ps:List (Str×Str))(x:Str):List Str:=(ps.filter λp=>decide (p.2=x)).map (·.1)++(ps.filter λp=>decide (p.1=x)).map (·.2)
theorem mem_nbrs{ps:List (Str×Str)}{x y:Str}:y∈zey ps x↔(y,x)∈ps\/(x,y)∈ps:=by
 unfold zey
 rw[List.mem_append,List.mem_map,List.mem_map]
 constructor
 ·rintro (⟨⟨a,b⟩,h,rfl⟩|⟨⟨a,b⟩,h,rfl⟩)
  ·obtain ⟨h1,h2⟩:=List.mem_filter.mp h
   have h2:b=x:=of_decide_eq_true h2
   subst h2
   exact .inl h1
  ·obtain ⟨h1,h2⟩:=List.mem_filter.mp h
   have h2:a=x:=of_decide_eq_true h2
   subst h2
   exact .inr h1
 ·rintro (h|h)
  ·exact .inl ⟨(y,x),List.mem_filter.mpr ⟨h,decide_eq_true rfl⟩,rfl⟩
  ·exact .inr ⟨(x,y),List.mem_filter.mpr ⟨h,decide_eq_true rfl⟩,rfl⟩
theorem TownOk.ps_nd{g:Str}{hs:List Str}{ps:List (Str×Str)}{lks hds:List D}(T:TownOk g hs ps lks hds):ps.Nodup:=T.riseP.imp λ{a b} h z=>by rw[z,zg2] at h;cases h
theorem TownOk.hs_nd{g:Str}{hs:List Str}{ps:List (Str×Str)}{lks hds:List D}(T:TownOk g hs ps lks hds):hs.Nodup:=T.rise.imp λ{a b} h z=>by rw[z,zeK] at h;cases h
theorem zjY{g:Str}{hs:List Str}{ps:List (Str×Str)}{lks hds:List D}(T:TownOk g hs ps lks hds)(x:Str):(zey ps x).Nodup:=by
 have nd:=T.ps_nd
 unfold zey
 rw[List.nodup_append]
 refine⟨?_,?_,?_⟩
 ·rw[List.nodup_iff_pairwise_ne,List.pairwise_map]
  refine List.Pairwise.imp_of_mem (λ{a b} ha hb hab z=>?_) (nd.filter _)
  have h1:a.2=x:=of_decide_eq_true (List.mem_filter.mp ha).2
  have h2:b.2=x:=of_decide_eq_true (List.mem_filter.mp hb).2
  exact hab (Prod.ext z (h1.trans h2.symm))
 ·rw[List.nodup_iff_pairwise_ne,List.pairwise_map]
  refine List.Pairwise.imp_of_mem (λ{a b} ha hb hab z=>?_) (nd.filter _)
  have h1:a.1=x:=of_decide_eq_true (List.mem_filter.mp ha).2
  have h2:b.1=x:=of_decide_eq_true (List.mem_filter.mp hb).2
  exact hab (Prod.ext (h1.trans h2.symm) z)
 ·intro y hy z hz e
  subst e
  obtain⟨a,ha,rfl⟩:=List.mem_map.mp hy
  obtain⟨b,hb,eb⟩:=List.mem_map.mp hz
  obtain⟨ha1,ha2⟩:=List.mem_filter.mp ha
  obtain⟨hb1,hb2⟩:=List.mem_filter.mp hb
  have h1:a.2=x:=of_decide_eq_true ha2
  have h2:b.1=x:=of_decide_eq_true hb2
  have l1:=(T.ties a ha1).2.2
  have l2:=(T.ties b hb1).2.2
  rw[h1] at l1
  rw[h2,eb] at l2
  have:=zeJ l1
  rw[l2] at this
  cases this
theorem zdd{g:Str}{hs:List Str}{ps:List (Str×Str)}{lks hds:List D}(T:TownOk g hs ps lks hds){x y:Str}(h:y∈zey ps x):y∈hs:=by
 rcases mem_nbrs.mp h with h|h
 ·exact (T.ties _ h).1
 ·exact (T.ties _ h).2.1
theorem zcY{g:Str}{hs:List Str}{ps:List (Str×Str)}{lks hds:List D}(T:TownOk g hs ps lks hds)(x:Str):(zey ps x).length<=10:=Nat.le_trans (zct (zjY T x) λy hy=>zdd T hy) T.ten
structure WayOk(g:Str)(hs:List Str)(ps:List (Str×Str))(ws:List Str):Prop where
 nd:ws.Nodup
 mem:∀x∈ws,x∈hs
 last:∃w0,ws=w0 ++ [g]
 tied:∀(i:Nat) (a b:Str),ws[i]?=some a->ws[i+1]?=some b->b∈zey ps a
theorem zhz{J:It}{vs:List V}{ps:List (Str×Str)}{sel:Str×Str->Bool}{f:Str×Str->Str}{ok:Hp->Prop}{g:TG}{tc:TT}{te:TE}{H:Hp}{src:List (Option Nat)}{σ:L2.St}{Q:VK}(Iv:L2.St->Prop)(wk:Wk J vs.length (λi x=>vs[i]?=some x) ok)(hok:∀H',Same H H'->ok H')(r:RepL H vs (ps.map RW.pairD))(hl:ps.length<=900)(h0:Iv (zfV src σ))
 (hs:∀(q:Addr) (p:Str×Str) (σ':L2.St) (H1:Hp) (A:V->Hp->L2.St->Prop) (B:L2.St->Hp->Prop),Iv σ'->Same H H1->H1 q=some (.tup [.str p.1, .str p.2])->p∈ps->(∀σ2,Iv σ2->if sel p=true then A (.str (f p)) H1 σ2 else B σ2 H1)->g (.ref q) σ' H1 λσ2 H3=>tc σ2 H3 λb H4=>if b=true then te σ2 H4 (λy H5=>A y H5 σ2)else B σ2 H4)
 (q:∀l H',Same H H'->H l=none->H' l=some (.lst (((ps.filter sel).map f).map V.str))->Q (.ref l) H'):zef g tc te src σ Q J H:=by
 refine zbv wk (λl i ys σ' H'=>Iv σ'/\ys=(((ps.take i).filter sel).map f).map V.str/\Same H H') ?_ ?_ ?_ ?_
 ·exact λl h'=>⟨h0,rfl,Same.new h'⟩
 ·exact λl i ys σ' H' _ p=>hok H' p.2.2
 ·rintro l i y ys σ' H1 h' hi hy ⟨iv,rfl,s1⟩ hl'
  obtain⟨d,hd,rd⟩:=r.get hy
  rw[List.getElem?_map] at hd
  cases hp:ps[i]? with
  |none=>rw[hp] at hd;cases hd
  |some p=>
   rw[hp] at hd
   cases hd
   obtain⟨q,x,y,rfl,hq,r1,r2⟩:=(rd.same s1).of2
   cases r1 with|str _ _=>
   cases r2 with|str _ _=>
   refine hs q p σ' H1 (λy H5 σ2=>H5 l=some (.lst ((((ps.take i).filter sel).map f).map V.str))/\((((ps.take i).filter sel).map f).map V.str).length<sizeLine/\Iv σ2/\(((ps.take i).filter sel).map f).map V.str ++ [y]=(((ps.take (i+1)).filter sel).map f).map V.str/\Same H (upd H5 l (.lst ((((ps.take i).filter sel).map f).map V.str ++ [y])))) (λσ2 H4=>H4 l=some (.lst ((((ps.take i).filter sel).map f).map V.str))/\Iv σ2/\(((ps.take i).filter sel).map f).map V.str=(((ps.take (i+1)).filter sel).map f).map V.str/\Same H H4) iv s1 hq (List.mem_of_getElem? hp) λσ2 iv2=>?_
   have tk:((ps.take (i+1)).filter sel)=((ps.take i).filter sel)++ [p].filter sel:=by rw[List.take_add_one,hp,List.filter_append];rfl
   cases hsel:sel p with
   |false=>
    refine zbM rfl ⟨hl',iv2,?_,s1⟩
    rw[tk]
    simp[hsel]
   |true=>
    refine zbA rfl ⟨hl',?_,iv2,?_,?_⟩
    ·rw[List.length_map,List.length_map]
     have h2:=List.length_filter_le sel (ps.take i)
     rw[List.length_take] at h2
     exact zm (by omega)
    ·rw[tk]
     simp[hsel]
    ·exact λc o e=>by
      rw[ze (zh e h')]
      exact s1 _ _ e
 ·rintro l ys σ' H1 h' ⟨iv,rfl,s1⟩ hl'
  have e:ps.length=vs.length:=by rw[r.1,List.length_map]
  rw[←e,List.take_length] at hl'
  exact q l H1 s1 h' hl'
theorem zgr{H:Hp}{us:List V}{xs:List Str}(r:RepL H us (xs.map D.str)):us=xs.map V.str:=by
 apply List.ext_getElem?
 intro i
 rcases Nat.lt_or_ge i xs.length with hi|hi
 ·have hv:i<us.length:=by rw[r.1,List.length_map];exact hi
  have:=r.2 i us[i] (.str xs[i]) (by simp[hv]) (by simp[hi])
  rw[List.getElem?_eq_getElem hv,List.getElem?_map,List.getElem?_eq_getElem hi]
  generalize us[i]=z at this
  cases this
  rfl
 ·rw[List.getElem?_eq_none (by rw[r.1,List.length_map];exact hi),List.getElem?_eq_none (by rw[List.length_map];exact hi)]
noncomputable def zlM(ws:List Str):D->Bool| .str x=>!(ws.any λy=>decide (y=x))|_=>false
theorem zim{ws xs:List Str}:(xs.map D.str).filter (zlM ws)=(xs.filter λx=>!(ws.any λy=>decide (y=x))).map D.str:=by
 rw[List.filter_map];rfl
noncomputable def zu(xs:List Str):List PyData:=xs.map PyData.str
theorem zjE{H:Hp}{l:Addr}{xs:List Str}(e:H l=some (.lst (xs.map V.str)))(h:∀x∈xs,PyData.strOk x=true):Tr H (.ref l) (.list (zu xs)):=by
 refine .lst e (by unfold zu;rw[List.length_map,List.length_map]) λi v d e1 e2=>?_
 unfold zu at e2
 rw[List.getElem?_map] at e1 e2
 cases e3:xs[i]? with
 |none=>rw[e3] at e1;cases e1
 |some x=>
  rw[e3] at e1 e2
  cases e1
  cases e2
  exact .str x (h x (List.mem_of_getElem? e3))
theorem zhe{H:Hp}{l:Addr}(e:H l=some (.lst [])):Tr H (.ref l) (.list []):= .lst e rfl λi v d z=>by cases z
section
variable{X:Cx}{K:PySem.W.Frag}
end
section
variable{te tf:TE}{ta:TA}{σ:L2.St}{H:Hp}{d:D}{ds es:List D}{K:PySem.W.Frag}
end
section
variable{te tf:TE}{ta:TA}{tb:TS}{De:Ends}{σ:L2.St}{H:Hp}{d:D}{ds es:List D}{K:PySem.W.Frag}{k:Nat}
end
theorem zfq:∀{l m:List Str},l.Pairwise (λa b=>ltS a b=true)->m.Pairwise (λa b=>ltS a b=true)->(∀x,x∈l↔x∈m)->l=m
 |[],[],_,_,_=>rfl
 |[],b::m,_,_,h=>absurd ((h b).mpr List.mem_cons_self) List.not_mem_nil
 |a::l,[],_,_,h=>absurd ((h a).mp List.mem_cons_self) List.not_mem_nil
 |a::l,b::m,p,q,h=>by
  obtain⟨p1,p2⟩:=List.pairwise_cons.mp p
  obtain⟨q1,q2⟩:=List.pairwise_cons.mp q
  have e:a=b:=by
   rcases List.mem_cons.mp ((h a).mp List.mem_cons_self)with z|z
   ·exact z
   rcases List.mem_cons.mp ((h b).mpr List.mem_cons_self)with y|y
   ·exact y.symm
   have:=zeJ (q1 a z)
   rw[p1 b y] at this;cases this
  subst e
  rw[zfq p2 q2 λx=>⟨λhx=>?_,λhx=>?_⟩]
  ·rcases List.mem_cons.mp ((h x).mp (List.mem_cons_of_mem _ hx))with rfl|z
   ·have:=p1 x hx;rw[zeK] at this;cases this
   ·exact z
  ·rcases List.mem_cons.mp ((h x).mpr (List.mem_cons_of_mem _ hx))with rfl|z
   ·have:=q1 x hx;rw[zeK] at this;cases this
   ·exact z
noncomputable def dueB(ps:List (Str×Str))(x:Str):D->Bool| .str y=>decide ((x,y)∈ps)||decide ((y,x)∈ps)|_=>false
noncomputable def due(hs:List Str)(ps:List (Str×Str))(x:Str):List Str:=hs.filter λy=>decide ((x,y)∈ps)||decide ((y,x)∈ps)
theorem zfy{g:Str}{hs:List Str}{ps:List (Str×Str)}{lks hds:List D}(T:TownOk g hs ps lks hds){x:Str}{ts:List Str}(hp:ts.Perm (zey ps x))(h:sortedS ts=true):ts=due hs ps x:=by
 refine zfq (zeN ts h (hp.nodup_iff.mpr (zjY T x))) (T.rise.filter _) λy=>?_
 rw[hp.mem_iff,mem_nbrs]
 unfold due
 rw[List.mem_filter,Bool.or_eq_true,decide_eq_true_iff,decide_eq_true_iff]
 constructor
 ·rintro (z|z)
  ·exact ⟨(T.ties _ z).1, .inr z⟩
  ·exact ⟨(T.ties _ z).2.1, .inl z⟩
 ·rintro ⟨_,z|z⟩
  ·exact .inr z
  ·exact .inl z
theorem zeu:∀{xs ys:List Str},PyData.eqvAll (zu xs) (zu ys)=decide (xs=ys)
 |[],[]=>by unfold zu;rw[List.map_nil,PyData.eqvAll];rfl
 |[],y::ys=>by unfold zu;rw[List.map_nil,List.map_cons,PyData.eqvAll];rfl
 |x::xs,[]=>by unfold zu;rw[List.map_nil,List.map_cons,PyData.eqvAll];rfl
 |x::xs,y::ys=>by
  have ih:=zeu (xs:=xs) (ys:=ys)
  unfold zu at ih⊢
  rw[List.map_cons,List.map_cons,PyData.eqvAll,PyData.eqv,ih,Bool.eq_iff_iff,decide_eq_true_iff,List.cons.injEq]
  simp
theorem zbC:∀{xs:List Str},PyData.depthAll (zu xs)<=1
 |[]=>by unfold zu;rw[List.map_nil,PyData.depthAll];decide
 |x::xs=>by
  have ih:=zbC (xs:=xs)
  unfold zu at ih⊢
  rw[List.map_cons,PyData.depthAll,PyData.depth]
  omega
end RW
namespace L2
open PySem PySem.Spec PyProof.Rows
structure FunD(K:PySem.W.Frag)(x qual:Str)(st:Stmt)(f:Addr)(fd:FuncData):Prop where
 ex:∃(oc:Value) (od:Option Addr) (dt:Addr) (kV doc pm:Value) (an:Option Addr) (cdv ct:Value) (osl:Array (Option Value)) (od2:Option Addr) (n2:Nat) (sl2:Array (Option Value)),
  fd=PySem.W.fnOf x qual (zq st) (zp st) (zc st) (.ref dt) kV doc pm an cdv ct/\K.lookup f=some ⟨oc,od, .func fd,osl⟩/\PySem.W.codeIn K cdv qual=true/\K.lookup dt=some ⟨.type "tuple",od2, .seq #[.none] n2,sl2⟩
 kp:PySem.W.keepIn K (.ref f)=true
section
variable{P:Program}{w:World}{K:PySem.W.Frag}{mg:Str->Option Value}{base:Heap}
theorem FunD.okQ{x qual:Str}{st:Stmt}{f:Addr}{fd:FuncData}{N ps:List Str}{k:Nat}{sp:Sp}(F:FunD K x qual st f fd)(S:FnScope N ps (zc st))(len:∀vs H Q E,sp vs H Q E->vs.length=ps.length)
 (hbody:∀(cdv:Value) (A:Around) (outer:List Env) (s:Shared) (H:Hp) (vs:List V) (Q:VK) (E:XK),Room k (A.deeper (envOfC qual (zc st) s.heap.objs.size f cdv))->sp vs H Q E->
   ∃t,QB (zhG CX0 P w K mg base N qual (zc st) f cdv A outer s H E).nox (zp st) t/\t {nx:=λ_ H'=>Q .non H',rt:=Q} (zds N vs) H):FnOk P w K mg base CX0 (k+1) f fd ps sp:=by
 obtain⟨oc,od,dt,kV,doc,pm,an,cdv,ct,osl,od2,n2,sl2,rfl,lk,hcd,ld⟩:=F.ex
 refine zoe lk hcd S len λA outer s H vs Q E hr hsp=>?_
 obtain⟨t,h,q⟩:=hbody cdv A outer s H vs Q E hr hsp
 exact⟨t,h.o.nox,q⟩
theorem zjz{x qual:Str}{st:Stmt}{f dt:Addr}{oc:Value}{od an od2:Option Addr}{osl sl2:Array (Option Value)}{n2:Nat}{kV doc pm cdv ct:Value}(l:K.lookup f=some ⟨oc,od, .func (PySem.W.fnOf x qual (zq st) (zp st) (zc st) (.ref dt) kV doc pm an cdv ct),osl⟩)
 (ld:K.lookup dt=some ⟨.type "tuple",od2, .seq #[.none] n2,sl2⟩) (c:PySem.W.codeIn K cdv qual=true) (k:PySem.W.keepIn K (.ref f)=true):FunD K x qual st f (PySem.W.fnOf x qual (zq st) (zp st) (zc st) (.ref dt) kV doc pm an cdv ct):=⟨⟨oc,od,dt,kV,doc,pm,an,cdv,ct,osl,od2,n2,sl2,rfl,l,c,ld⟩,k⟩
theorem FunD.binds{x qual:Str}{st:Stmt}{f:Addr}{fd:FuncData}{ps:List Str}{ds:List Value}(F:FunD K x qual st f fd)(m:Nat)(hm:ps.length=m+ds.length)
 (h:∀(dt:Addr) (kV doc pm:Value) (an:Option Addr) (cdv ct:Value) (us:List Value),us.length=m->∃k:Option (Array Value)->Sem (List (Str×Value)),bindArgs (PySem.W.fnOf x qual (zq st) (zp st) (zc st) (.ref dt) kV doc pm an cdv ct) ⟨us,[]⟩=seqItems? (.ref dt)>>=k/\k (some #[.none])=pure (ps.zip (us ++ds))):Binds K fd ps ds:=by
 obtain⟨oc,od,dt,kV,doc,pm,an,cdv,ct,osl,od2,n2,sl2,rfl,lk,hcd,ld⟩:=F.ex
 intro s us kin hl
 obtain⟨k,e1,e2⟩:=h dt kV doc pm an cdv ct us (by rw[List.length_append] at hl;omega)
 exact BindsTo.of_defaults (T:=dt) rfl (kin _ _ ld) rfl e1 e2
end
end L2
namespace RW
open PySem PySem.Spec PyProof.Rows L2
structure AtD(K:PySem.W.Frag)(mg:Str->Option Value)(x:Str)(st:Stmt)(ps:List Str)(f:Addr)(fd:FuncData):Prop where
 fn:FunD K x x st f fd
 b:Binds K fd ps []
 bd:Binds K fd ps [.none]
 mg:mg x=some (.ref f)
 kp:PySem.W.keepIn K (.ref f)=true
noncomputable def z9(O:List Str):D->Bool| .tup [_, .str x]=>decide (x∈O)|_=>true
noncomputable def zb2(O:List Str):D->Bool| .tup [.str w,e]=>if w="not"then z9 O e else z9 O (.tup [.str w,e])|_=>true
noncomputable def zng(O:List Str):D->Bool| .tup ds=>ds.all (zb2 O)|_=>true
noncomputable def zg1(O:List Str):D->Bool| .tup [c,t]=>zng O c&&z9 O t|_=>true
noncomputable def zcj(O:List Str):D->Bool| .tup ds=>ds.all (zg1 O)|_=>true
structure Pool(hs:List Str)(lks hds:List D)(O:List Str):Prop where
 few:O.length<=14
 nm:∀x∈O,zi x=true
 hs:∀x∈hs,x∈O
 lk:∀d∈lks,zcj O d=true
 hd:∀d∈hds,zcj O d=true
noncomputable def zg7(O:List Str)(d:D):Bool:=zL d&&zg1 O d
noncomputable def zg3(O:List Str)(d:D):Bool:=zbW d&&zg1 O d
theorem zbP{O:List Str}{y:D}{x:Str}(h:x∈O):z9 O (.tup [y, .str x])=true:=decide_eq_true h
theorem zg6{O:List Str}{w:Str}{e:D}(h:zC (.tup [.str w,e])=true)(hp:z9 O (.tup [.str w,e])=true):zb2 O (.tup [.str w,e])=true:=by
 show(if w="not"then _ else _)=true
 by_cases z:w="not"
 ·subst z;rw[zdl] at h;cases h
 ·rw[if_neg z];exact hp
theorem zkF{O:List Str}{d:D}(h:zC d=true)(hp:z9 O d=true):zb2 O d=true:=by
 obtain⟨x,e,rfl⟩:=zca d h
 exact zg6 h hp
theorem ziE{O:List Str}{d:D}(hp:z9 O d=true):zb2 O (.tup [.str "not",d])=true:=by
 show(if("not":Str)="not"then z9 O d else z9 O (.tup [.str "not",d]))=true
 rw[if_pos rfl];exact hp
theorem zgp{O:List Str}{ds:List D}{t:D}(h:∀d∈ds,zb2 O d=true)(ht:z9 O t=true):zg1 O (.tup [.tup ds,t])=true:=by
 show(ds.all (zb2 O)&&z9 O t)=true
 rw[List.all_eq_true.mpr h,ht];rfl
end RW
namespace L2
open PySem PySem.Spec PyProof.Rows
section
variable{X:Cx}{pos:Pos}{pins:List (Addr×Obj)}{σ:St}{H:Hp}{s:Shared}
theorem zdB{P:Program}{w:World}:∀{es:List DictEntry} {kvs:List (Key×Value)},Pairs (zW P w) es kvs->Vals (kvs.map λkv=>kV kv.1) (es.map (·.key))
 |_,_, .nil=> .nil
 |_,_, .cons (e:=e) (kv:=kv) h1 h2 h3=>by
  refine .cons ?_ (zdB h3)
  have h1:zfe kv.1 e.key=true:=h1
  rcases zX h1 with⟨i,t,a,b⟩|⟨x,t,a,b⟩
  ·show RelV (kV kv.1) e.key
   rw[a,b];exact⟨t,rfl⟩
  ·show RelV (kV kv.1) e.key
   rw[a,b];exact⟨t,rfl⟩
theorem zde:∀{kvs:List (Key×V)} {vs:List (Key×Value)},KV kvs vs->kvs.map (·.1)=vs.map (·.1)
 |_,_, .nil=>rfl
 |_,_, .cons h t=>by rw[List.map_cons,List.map_cons,h.1,zde t]
end
end L2
namespace RW
open PySem PySem.Spec PyProof.Rows L2
noncomputable def phB(ws ms:List Str)(to:Option Str)(w:Str)(x:D):Bool:=
 if w="by"then (match x with| .str y=>ws.any λz=>decide (z=y)|_=>false)
 else if w="from"then (match x with| .str y=>decide (ws[1]?=some y)|_=>false)
 else if w="to"then (match x with| .str y=>decide (to=some y)|_=>false)
 else if w="mark"then (match x with| .str y=>ms.any λz=>decide (z=y)|_=>false)
 else(match x with| .int i=>decide (i<(ws.length:Int))|_=>false)
noncomputable def zea(ws ms:List Str)(to:Option Str):D->Bool| .tup [.str w,x]=>phB ws ms to w x|_=>false
noncomputable def zcK(ws ms:List Str)(to:Option Str):D->Bool| .tup [.str w,x]=>if w="not"then !zea ws ms to x else phB ws ms to w x|_=>false
def TO(v:V)(to:Option Str):Prop:=(v= .non/\to=none)\/∃x,v= .str x/\to=some x/\zi x=true
theorem zba{x:Str}{e:D}(h:zC (.tup [.str x,e])=true):(x="long"/\∃i:Int,e= .int i/\0<=i/\i<=99)\/(x∈namingL/\∃y,e= .str y/\zi y=true):=by
 rw[zdQ] at h
 by_cases z:x="long"
 ·rw[if_pos z] at h
  cases e with
  |int i=>
   have h:(decide (0<=i)&&decide (i<=99))=true:=h
   rw[Bool.and_eq_true,decide_eq_true_iff,decide_eq_true_iff] at h
   exact .inl ⟨z,i,rfl,h.1,h.2⟩
  |_=>cases h
 ·rw[if_neg z,Bool.and_eq_true] at h
  obtain⟨h1,h2⟩:=h
  obtain⟨y,hy,ey⟩:=List.any_eq_true.mp h1
  have ey:y=x:=of_decide_eq_true ey
  subst ey
  cases e with
  |str y'=>exact .inr ⟨hy,y',rfl,h2⟩
  |_=>cases h2
theorem zdG{x:Str}(h:x∈namingL):x="by"\/x="from"\/x="to"\/x="mark":=by
 unfold namingL at h
 simpa using h
theorem zpo{ws ms:List Str}{to:Option Str}{y:Str}:phB ws ms to "by" (.str y)=ws.any λz=>decide (z=y):=by
 unfold phB;rw[if_pos rfl]
theorem znq{ws ms:List Str}{to:Option Str}{y:Str}:phB ws ms to "from" (.str y)=decide (ws[1]?=some y):=by
 unfold phB;rw[if_neg (by decide +kernel),if_pos rfl]
theorem zpq{ws ms:List Str}{to:Option Str}{y:Str}:phB ws ms to "to" (.str y)=decide (to=some y):=by
 unfold phB;rw[if_neg (by decide +kernel),if_neg (by decide +kernel),if_pos rfl]
theorem zns{ws ms:List Str}{to:Option Str}{y:Str}:phB ws ms to "mark" (.str y)=ms.any λz=>decide (z=y):=by
 unfold phB;rw[if_neg (by decide +kernel),if_neg (by decide +kernel),if_neg (by decide +kernel),if_pos rfl]
theorem zmv{ws ms:List Str}{to:Option Str}{i:Int}:phB ws ms to "long" (.int i)=decide (i<(ws.length:Int)):=by
 unfold phB;rw[if_neg (by decide +kernel),if_neg (by decide +kernel),if_neg (by decide +kernel),if_neg (by decide +kernel)]
theorem TO.eq{v:V}{to:Option Str}{y:Str}(h:TO v to):zoR v (.str y)=true/\decide (v= .str y)=decide (to=some y):=by
 rcases h with⟨rfl,rfl⟩|⟨x,rfl,rfl,_⟩
 ·exact ⟨rfl,rfl⟩
 ·refine ⟨rfl,?_⟩
  rw[zbR,Bool.eq_iff_iff,decide_eq_true_iff,decide_eq_true_iff,Option.some.injEq]
theorem zfc{H:Hp}{p:Addr}{xs:List Str}(e:H p=some (.tup (xs.map V.str)))(h:∀x∈xs,PyData.strOk x=true):Tr H (.ref p) (.tuple (zu xs)):=by
 refine .tup e (by unfold zu;rw[List.length_map,List.length_map]) λi v d e1 e2=>?_
 unfold zu at e2
 rw[List.getElem?_map] at e1 e2
 cases e3:xs[i]? with
 |none=>rw[e3] at e1;cases e1
 |some x=>
  rw[e3] at e1 e2
  cases e1
  cases e2
  exact .str x (h x (List.mem_of_getElem? e3))
theorem zdk{xs ys:List Str}:(PyData.tuple (zu xs)).eqv (.tuple (zu ys))=decide (xs=ys):=by
 rw[PyData.eqv,zeu]
theorem zeq{xs:List Str}:(PyData.tuple (zu xs)).depth<=60:=by
 have:=zbC (xs:=xs)
 rw[PyData.depth]
 omega
noncomputable def zdJ(c:D->Bool)(g:List Str->List Str->Option Str->D->Bool):Sp:=λvs H Q _=>∃(v:V) (d:D) (pw pm:Addr) (vt:V) (ws ms:List Str) (to:Option Str),vs=[v, .ref pw, .ref pm,vt]/\Rep H v d/\c d=true/\H pw=some (.tup (ws.map V.str))/\H pm=some (.tup (ms.map V.str))/\TO vt to/\(∀x∈ws,zi x=true)/\(∀x∈ms,zi x=true)/\1<=ws.length/\ws.length<=100/\ms.length<=100/\∀H',Same H H'->Q (.bl (g ws ms to d)) H'
theorem zfB{c:D}(h:zaD c=true):∃cs,c= .tup cs/\cs.length<=4/\∀d∈cs,zJ d=true:=by
 cases c with
 |tup cs=>
  rw[zhH,Bool.and_eq_true] at h
  exact⟨cs,rfl,of_decide_eq_true h.1,List.all_eq_true.mp h.2⟩
 |_=>cases h
theorem zi6{d:D}{f:D->D->Bool}(h:(match d with| .tup [c,x]=>f c x|_=>false)=true):∃c x,d= .tup [c,x]/\f c x=true:=by
 split at h
 ·exact ⟨_,_,rfl,h⟩
 ·cases h
theorem zgo{d:D}(h:zL d=true):∃cs x,d= .tup [.tup cs,x]/\cs.length<=4/\(∀c∈cs,zJ c=true)/\(x= .non\/∃i,x= .int i):=by
 unfold zL at h
 obtain⟨c,x,rfl,h⟩:=zi6 (f:=λc x=>zaD c&&zbN x&&!zdM c) h
 rw[Bool.and_eq_true,Bool.and_eq_true] at h
 obtain⟨cs,rfl,h4,hc⟩:=zfB h.1.1
 refine⟨cs,x,rfl,h4,hc,?_⟩
 have hx:=h.1.2
 cases x with
 |non=>exact .inl rfl
 |int i=>exact .inr ⟨i,rfl⟩
 |_=>cases hx
theorem zli{x:D}(h:zb8 x=true):(x= .tup [.str "keep"])\/∃w y,x= .tup [.str w, .str y]/\(w="put"\/w="strike")/\zi y=true:=by
 unfold zb8 at h
 split at h
 ·rename_i w
  exact .inl (by rw[of_decide_eq_true h])
 ·rename_i w y
  rw[Bool.and_eq_true,Bool.or_eq_true] at h
  have h2:=h.2
  cases y with
  |str y=>exact .inr ⟨w,y,rfl,h.1.imp of_decide_eq_true of_decide_eq_true,h2⟩
  |_=>cases h2
 ·cases h
theorem zjN{d:D}(h:zbW d=true):∃cs x,d= .tup [.tup cs,x]/\cs.length<=4/\(∀c∈cs,zJ c=true)/\zb8 x=true:=by
 unfold zbW at h
 obtain⟨c,x,rfl,h⟩:=zi6 (f:=λc x=>zaD c&&zb8 x) h
 rw[Bool.and_eq_true] at h
 obtain⟨cs,rfl,h4,hc⟩:=zfB h.1
 exact⟨cs,x,rfl,h4,hc,h.2⟩
section
variable{te tf:TE}{ta:TA}{tb:TS}{De:Ends}{σ:L2.St}{H:Hp}{d:D}{ds es:List D}{K:PySem.W.Frag}{k:Nat}
end
end RW
namespace HT
open PySem PySem.Spec PyProof.Rows
section
variable{prog:Program}{w:World}{A:Around}{E:Value->Shared->Prop}{s:Shared}
theorem zes:∀{vs:List Value} {ys:List Str},StrsAre vs ys->vs.length=ys.length/\∀(i:Nat) (y:Str),ys[i]?=some y->∃t,vs[i]?=some (.str y t)
 |_,_, .nil=>⟨rfl,λi y h=>by simp at h⟩
 |_,_, .cons y t r=>by
  obtain⟨h1,h2⟩:=zes r
  refine⟨by simp[h1],λi z h=>?_⟩
  cases i with
  |zero=>cases h;exact⟨t,rfl⟩
  |succ i=>exact h2 i z h
theorem index_tup{t:Addr}{items:Array Value}{ys:List Str}{x:Str}{tk:Tok}{j:Nat}{Q:Value->Shared->Prop}(ht:IsTup s.heap t items)(hS:StrsAre items.toList ys)(hj:ys[j]?=some x)(hb:∀i<j,ys[i]?≠some x)
 (h:∀(t':Tok) (k:Nat),Q (.int j t') {s with toks:=k}):wpAny (model prog w) A (call (.builtin "tuple.index") [.ref t, .str x tk]) Q E s:=by
 refine wpAny_call_entry PySem.F.slot_tuple_index ht.typeIs PySem.F.entry_tuple_index ?_ (PySem.F.args_tuple_index_2 _ _)
 unfold Builtin.«tuple.index»
 refine wpAny_bind (m:=selfAndSome "tuple.index" "index" 1 3 _) (wpAny_pure ?_)
 dsimp only
 refine wpAny_bind (tupleItemsOf_ ht ?_)
 refine wpAny_bind (wpAny_pure ?_)
 refine wpAny_bind (wpAny_pure ?_)
 obtain⟨hl,hg⟩:=zes hS
 have hjn:j<items.size:=by
  rw[←Array.length_toList,hl]
  rcases Nat.lt_or_ge j ys.length with z|z
  ·exact z
  ·rw[List.getElem?_eq_none z] at hj;cases hj
 rw[Std.Legacy.Range.forIn_eq_forIn_range']
 refine wpAny_bind (wpAny_forIn_list _ (λl b s'=>∃i,l=List.range' i (items.size -i) 1/\i<=j/\b=(none,())/\s'=s) _ ?_ ?_ _ _ ?_)
 ·rintro a rest b s' ⟨i,el,hij,rfl,rfl⟩
  obtain⟨m,em⟩:∃m,items.size -i=m+1:=⟨items.size -i -1,by omega⟩
  rw[em,List.range'_succ] at el
  have ea:=(List.cons.inj el).1
  have er:=(List.cons.inj el).2
  subst er
  rw[ea]
  have hiy:i<ys.length:=by rw[←hl,Array.length_toList];omega
  obtain⟨t1,e1⟩:=hg i ys[i] (by simp[hiy])
  have e2:items[i]?=some (.str ys[i] t1):=by rw[←Array.getElem?_toList];exact e1
  rw[e2]
  dsimp only
  refine wpAny_bind (wpAny_eqBool_str ?_)
  rcases Nat.lt_or_ge i j with z|z
  ·have ne:¬ys[i]=x:=λy=>hb i z (by rw[←y];simp[hiy])
   rw[decide_eq_false ne]
   exact wpAny_pure ⟨i+1,by rw[show items.size -(i+1)=m by omega],by omega,rfl,rfl⟩
  ·have ei:i=j:=by omega
   subst ei
   have ey:ys[i]=x:=by
    have:ys[i]?=some ys[i]:=by simp[hiy]
    rw[this] at hj;exact Option.some.inj hj
   rw[decide_eq_true ey]
   refine wpAny_bind (m:=retInt _) (wpAny_bind (wpAny_mkInt (wpAny_pure (wpAny_pure ?_))))
   exact wpAny_pure ⟨_,rfl,h _ _⟩
 ·rintro b s' ⟨i,el,hij,rfl,rfl⟩
  have:=congrArg List.length el
  rw[List.length_range',List.length_nil] at this
  omega
 ·exact ⟨0,by simp[Std.Legacy.Range.size],Nat.zero_le _,rfl,rfl⟩
end
section
variable{prog:Program}{w:World}{A:Around}{E:Value->Shared->Prop}{s:Shared}
end
section
variable{prog:Program}{w:World}{A:Around}{E:Value->Shared->Prop}{s:Shared}
end
end HT
namespace L2
open PySem PySem.Spec PyProof.Rows
section
variable{X:Cx}{K:PySem.W.Frag}
def znQ(K:PySem.W.Frag):V->List V->Hp->VK->Prop:=λx vs H Q=>∃(p:Addr) (ys:List Str) (y:Str) (j:Nat),x= .ref p/\vs=[.str y]/\SqT K H p (ys.map V.str)/\ys[j]?=some y/\(∀i<j,ys[i]?≠some y)/\Q (.int (j:Int)) H
theorem zgu:MtR X "tuple.index" (znQ X.K):=by
 intro pins s σ H x xs v us Q I rx rs h
 obtain⟨p,ys,y,j,rfl,rfl,hq,hj,hb,q⟩:=h
 cases rx
 obtain⟨u,rfl,ru⟩:=zcN rs
 obtain⟨t,rfl⟩:=ru
 obtain⟨its,rv,pl,hz⟩:=I.tuple hq
 exact HT.index_tup pl (by simpa using za6 rv) hj hb λt' k=>⟨.int _,H,I.tok _,⟨_,rfl⟩,q⟩
end
end L2
namespace RW
open PySem PySem.Spec PyProof.Rows L2
theorem zlc{hs:List Str}(nd:hs.Nodup){x:Str}{i j:Nat}(h1:hs[i]?=some x)(h2:hs[j]?=some x):i=j:=by
 have lt:∀{k:Nat},hs[k]?=some x->k<hs.length:=λ{k} z=>by
  rcases Nat.lt_or_ge k hs.length with y|y
  ·exact y
  ·rw[List.getElem?_eq_none y] at z;cases z
 have l1:=lt h1
 have l2:=lt h2
 rw[List.getElem?_eq_getElem l1] at h1
 rw[List.getElem?_eq_getElem l2] at h2
 have e:hs[i]=hs[j]:=(Option.some.inj h1).trans (Option.some.inj h2).symm
 have pw:=List.pairwise_iff_getElem.mp nd
 rcases Nat.lt_trichotomy i j with z|z|z
 ·exact absurd e (pw i j l1 l2 z)
 ·exact z
 ·exact absurd e.symm (pw j i l2 l1 z)
theorem zhE{hs:List Str}(nd:hs.Nodup){x:Str}{j:Nat}(h:hs[j]?=some x):∀i<j,hs[i]?≠some x:=λi hi z=>by
 have:=zlc nd z h
 omega
noncomputable def zeA(ws ms:List Str)(to:Option Str)(cs:List D):Bool:=cs.all (zcK ws ms to)
noncomputable def zhU:D->List D| .tup [.tup cs,_]=>cs|_=> []
noncomputable def zme:D->D| .tup [_,t]=>t|_=> .non
noncomputable def zP(ws ms:List Str):List D->D
 |[]=> .int 0
 |r::rs=>if zeA ws ms none (zhU r)=true then zme r else zP ws ms rs
noncomputable def ziV:Sp:=λvs H Q _=>∃(v:V) (cs:List D) (pw pm:Addr) (vt:V) (ws ms:List Str) (to:Option Str),vs=[v, .ref pw, .ref pm,vt]/\Rep H v (.tup cs)/\(∀c∈cs,zJ c=true)/\H pw=some (.tup (ws.map V.str))/\H pm=some (.tup (ms.map V.str))/\TO vt to/\(∀x∈ws,zi x=true)/\(∀x∈ms,zi x=true)/\1<=ws.length/\ws.length<=100/\ms.length<=100/\∀H',Same H H'->Q (.bl (zeA ws ms to cs)) H'
noncomputable def zpV:Sp:=λvs H Q _=>∃(v:V) (x:Str) (g:Str) (hs:List Str) (ps:List (Str×Str)) (lks hds:List D) (j:Nat),vs=[v, .str x]/\Rep H v (zar g hs ps lks hds)/\TownOk g hs ps lks hds/\hs[j]?=some x/\∀(vr:V) (d:D),lks[j]?=some d->Rep H vr d->Q vr H
noncomputable def zgZ:Sp:=λvs H Q _=>∃(v:V) (pw pm:Addr) (x:Str) (ws ms:List Str) (g:Str) (hs:List Str) (ps:List (Str×Str)) (lks hds:List D) (j:Nat) (rs:List D),vs=[v, .ref pw, .ref pm]/\Rep H v (zar g hs ps lks hds)/\TownOk g hs ps lks hds/\hs[j]?=some x/\lks[j]?=some (.tup rs)/\H pw=some (.tup ((x::ws).map V.str))/\H pm=some (.tup (ms.map V.str))/\(∀y∈x::ws,zi y=true)/\(∀y∈ms,zi y=true)/\ws.length<=90/\ms.length<=100/\∀(u:V) (H':Hp),Rep H' u (zP (x::ws) ms rs)->Same H H'->Q u H'
theorem zoT{g:Str}{hs:List Str}{ps:List (Str×Str)}{lks hds:List D}(T:TownOk g hs ps lks hds){x:Str}(h:x∈hs):∃(j:Nat) (rs:List D),hs[j]?=some x/\lks[j]?=some (.tup rs)/\rs.length<=90/\∀r∈rs,zL r=true:=by
 obtain⟨j,hj,e⟩:=List.getElem_of_mem h
 have hl:j<lks.length:=by rw[T.ll];exact hj
 have hlk:=T.likes lks[j] (List.getElem_mem hl)
 cases hd:lks[j] with
 |tup rs=>
  rw[hd] at hlk
  have h:(decide (rs.length<=90)&&rs.all zL)=true:=hlk
  rw[Bool.and_eq_true] at h
  exact⟨j,rs,by rw[List.getElem?_eq_getElem hj,e],by rw[List.getElem?_eq_getElem hl,hd],of_decide_eq_true h.1,List.all_eq_true.mp h.2⟩
 |_=>rw[hd] at hlk;cases hlk
theorem zjm{α:Type}{rs:List α}{i:Nat}{d:α}(h:rs[i]?=some d):rs.drop i=d::rs.drop (i+1):=by
 have hi:i<rs.length:=by
  rcases Nat.lt_or_ge i rs.length with y|y
  ·exact y
  ·rw[List.getElem?_eq_none y] at h;cases h
 rw[List.drop_eq_getElem_cons hi]
 rw[List.getElem?_eq_getElem hi] at h
 rw[Option.some.inj h]
mutual
noncomputable def okD:D->Bool
 | .str x=>PyData.strOk x
 | .tup ds=>okL ds
 | .oth=>false
 | .non=>true
 | .bl _=>true
 | .int _=>true
noncomputable def okL:List D->Bool
 |[]=>true
 |d::ds=>okD d&&okL ds
end
mutual
noncomputable def pyD:D->PyData
 | .non=> .none
 | .bl b=> .bool b
 | .int i=> .int i
 | .str x=> .str x
 | .tup ds=> .tuple (pyL ds)
 | .oth=> .none
noncomputable def pyL:List D->List PyData
 |[]=> []
 |d::ds=>pyD d::pyL ds
end
theorem zeG:∀{ds:List D},pyL ds=ds.map pyD
 |[]=>by rw[pyL];rfl
 |d::ds=>by rw[pyL,List.map_cons,zeG]
theorem zjR:∀{ds:List D},okL ds=true->∀d∈ds,okD d=true
 |[],_,_,z=>nomatch z
 |d::ds,h,e,he=>by
  rw[okL,Bool.and_eq_true] at h
  rcases List.mem_cons.mp he with rfl|he
  ·exact h.1
  ·exact zjR h.2 e he
theorem zk7:∀{ds:List D},(∀d∈ds,okD d=true)->okL ds=true
 |[],_=>by rw[okL]
 |d::ds,h=>by rw[okL,h d List.mem_cons_self,zk7 λe he=>h e (List.mem_cons_of_mem _ he)];rfl
theorem zmX{H:Hp}{p:Addr}(e:H p=some (.tup [])):Tr H (.ref p) (.tuple []):= .tup e rfl λi v d z=>by cases z
noncomputable def leS(a b:Str):Bool:=!ltS b a
noncomputable def srt(l:List Str):List Str:=l.mergeSort leS
theorem zlT(a b c:Str)(h1:leS a b=true)(h2:leS b c=true):leS a c=true:=by
 unfold leS at *
 rw[Bool.not_eq_true'] at *
 cases h:ltS c a with
 |false=>rfl
 |true=>
  by_cases e:a=b
  ·subst e;rw[h] at h2;cases h2
  ·have ab:ltS a b=true:=zcL (λz=>e z.symm) h1
   have:=zfl h ab
   rw[this] at h2;cases h2
theorem zmY(a b:Str):(leS a b||leS b a)=true:=by
 unfold leS
 cases h:ltS b a with
 |false=>rfl
 |true=>rw[zeJ h];rfl
theorem zeZ(l:List Str):(srt l).Perm l:=List.mergeSort_perm l leS
noncomputable def zbB(t:List Str)(w m:Str):List Str:=t.filter (λx=>!decide (x=m))++(if w="put"then [m] else [])
noncomputable def ze8(t:List Str)(w m:Str):List Str:=srt (zbB t w m)
structure Mk(O t:List Str):Prop where
 nd:t.Nodup
 mem:∀x∈t,x∈O
noncomputable def zR(ws:List Str)(to:Option Str):List D->List Str->Option (List Str)
 |[],t=>some t
 |r::rs,t=>if zeA ws t to (zhU r)=true then(match zme r with| .tup [.str w, .str m]=>zR ws to rs (ze8 t w m)|_=>none)else zR ws to rs t
def zpU(H:Hp)(u:V):Option (List Str)->Prop
 |none=>u= .non
 |some t=>∃p,u= .ref p/\H p=some (.tup (t.map V.str))
noncomputable def zpO:Sp:=λvs H Q _=>∃(v:V) (x:Str) (g:Str) (hs:List Str) (ps:List (Str×Str)) (lks hds:List D) (j:Nat),vs=[v, .str x]/\Rep H v (zar g hs ps lks hds)/\TownOk g hs ps lks hds/\hs[j]?=some x/\∀(vr:V) (d:D),hds[j]?=some d->Rep H vr d->Q vr H
theorem zo6{g:Str}{hs:List Str}{ps:List (Str×Str)}{lks hds:List D}(T:TownOk g hs ps lks hds){x:Str}(h:x∈hs):∃(j:Nat) (d:D),hs[j]?=some x/\hds[j]?=some d/\d∈hds:=by
 obtain⟨j,hj,e⟩:=List.getElem_of_mem h
 have hl:j<hds.length:=by rw[T.lh];exact hj
 exact⟨j,hds[j],by rw[List.getElem?_eq_getElem hj,e],List.getElem?_eq_getElem hl,List.getElem_mem hl⟩
noncomputable def neD(m:Str):D->Bool| .str z=>!decide (z=m)|_=>false
theorem zo2{t:List Str}{m:Str}:((t.map D.str).filter (neD m)).map (λd=>d)=(t.filter λx=>!decide (x=m)).map D.str:=by
 rw[List.map_id',List.filter_map];rfl
end RW
namespace L2
open PySem PySem.W PySem.Spec PyProof.Rows
section
open PySem.SeqAt
open PySem.AutoSeq1 (wpAny_loadPart')
open PySem.MeetsSeq PySem.MeetsSeq2 PySem.MeetsSeq3
theorem zcF(l b:Addr)(n n2:Nat)(dd dd2:Option Addr)(sl sl2:Array (Option Value))(xs ys:List Value)(k:Nat)(res:Bool):
 Meets (Builtin.«tuple.__lt__» ⟨[.ref l, .ref b],[]⟩) (λA R s=>s.heap.get? l=some {cls:= .type "tuple",dict:=dd,data:= .seq xs.toArray n,slots:=sl}/\s.heap.get? b=some {cls:= .type "tuple",dict:=dd2,data:= .seq ys.toArray n2,slots:=sl2}/\
  (∀prog w i x y,i<k->xs[i]?=some x->ys[i]?=some y->∀(E:Value->Shared->Prop) (Q:Bool->Shared->Prop),Q true s->wpAny (model prog w) A.in1 (eqBool x y) Q E s)/\k<=xs.length/\k<=ys.length/\
  ((k=min xs.length ys.length/\res=decide (xs.length<ys.length))\/∃x y,xs[k]?=some x/\ys[k]?=some y/\(∀prog w (E:Value->Shared->Prop) (Q:Bool->Shared->Prop),Q false s->wpAny (model prog w) A.in1 (eqBool x y) Q E s)/\∀prog w (E:Value->Shared->Prop) (Q:Value->Shared->Prop),Q (.bool res) s->wpAny (model prog w) A.in1 (richCompare .Lt x y) Q E s)/\
  R (.ok (.ret (.bool res))) s):=
 .of_wp λprog w A R s h=>by
  obtain⟨hp,g,d,tk,os⟩:=s
  obtain⟨hl,hb,he,k1,k2,hk,h⟩:=h
  have f2:=AutoSeq1.sub_tuple_tuple
  wp_walk using wpAny_loadPart' hl,wpAny_loadPart' hb,wpAny_forIn_list _ (λrest b s'=>b.1=none/\s'=⟨hp,g,d,tk,os⟩/\∃i,i<=k/\rest=(xs.zip ys).drop i) _
  case turn=>
   rintro⟨p,q⟩ rest b s' ⟨hb',rfl,i,hi,hr⟩
   have hx:(xs.zip ys)[i]?=some (p,q):=by
    have:=congrArg (λl=>l[0]?) hr
    simpa[List.getElem?_drop] using this.symm
   rw[List.getElem?_zip_eq_some] at hx
   have hr2:rest=(xs.zip ys).drop (i+1):=by
    have:=congrArg List.tail hr
    simpa using this
   rcases Nat.lt_or_ge i k with z|z
   ·refine wpAny_bind (he prog w i p q z hx.1 hx.2 _ _ ?_)
    wp_walk
    exact⟨rfl,rfl,i+1,z,hr2⟩
   ·have ei:i=k:=by omega
    subst ei
    rcases hk with⟨hm,_⟩|⟨x,y,ex,ey,f1,f3⟩
    ·have h1:i<xs.length:=by
      rcases Nat.lt_or_ge i xs.length with y|y
      ·exact y
      ·rw[List.getElem?_eq_none y] at hx;cases hx.1
     have h2:i<ys.length:=by
      rcases Nat.lt_or_ge i ys.length with y|y
      ·exact y
      ·rw[List.getElem?_eq_none y] at hx;cases hx.2
     omega
    ·rw[hx.1] at ex
     rw[hx.2] at ey
     cases ex
     cases ey
     refine wpAny_bind (f1 prog w _ _ ?_)
     have c1:=f3 prog w
     wp_walk using c1
     exact⟨_,rfl,h⟩
  case fin=>
   rintro⟨b1,b2⟩ s' ⟨hb',rfl,i,hi,hr⟩
   simp only at hb'
   subst hb'
   have hlen:(xs.zip ys).length<=i:=by
    have:=congrArg List.length hr
    rw[List.length_nil,List.length_drop] at this
    omega
   rw[List.length_zip] at hlen
   rcases hk with⟨hm,hres⟩|⟨x,y,ex,ey,_⟩
   ·wp_walk
    rw[hres] at h
    exact⟨_,rfl,h⟩
   ·have h1:k<xs.length:=by
     rcases Nat.lt_or_ge k xs.length with y|y
     ·exact y
     ·rw[List.getElem?_eq_none y] at ex;cases ex
    have h2:k<ys.length:=by
     rcases Nat.lt_or_ge k ys.length with z|z
     ·exact z
     ·rw[List.getElem?_eq_none z] at ey;cases ey
    omega
  case h=>
   exact⟨rfl,rfl,0,Nat.zero_le _,by simp⟩
end
end L2
namespace L2
open PySem PySem.W PySem.Spec PyProof.Rows RW
noncomputable def ltL:List Str->List Str->Bool
 |[],[]=>false
 |[],_::_=>true
 |_::_,[]=>false
 |x::xs,y::ys=>if x=y then ltL xs ys else ltS x y
theorem zlY:∀(ps qs:List Str),∃k,k<=ps.length/\k<=qs.length/\(∀i<k,ps[i]?=qs[i]?)/\((k=min ps.length qs.length/\ltL ps qs=decide (ps.length<qs.length))\/∃x y,ps[k]?=some x/\qs[k]?=some y/\x≠y/\ltL ps qs=ltS x y)
 |[],[]=>⟨0,Nat.le_refl _,Nat.le_refl _,λi z=>absurd z (Nat.not_lt_zero _), .inl ⟨rfl,rfl⟩⟩
 |[],q::qs=>⟨0,Nat.le_refl _,Nat.zero_le _,λi z=>absurd z (Nat.not_lt_zero _), .inl ⟨by simp,by rw[ltL];simp⟩⟩
 |p::ps,[]=>⟨0,Nat.zero_le _,Nat.le_refl _,λi z=>absurd z (Nat.not_lt_zero _), .inl ⟨by simp,by rw[ltL];simp⟩⟩
 |p::ps,q::qs=>by
  by_cases e:p=q
  ·subst e
   obtain⟨k,k1,k2,he,hk⟩:=zlY ps qs
   refine⟨k+1,by simp;omega,by simp;omega,λi hi=>?_,?_⟩
   ·cases i with
    |zero=>rfl
    |succ i=>exact he i (by omega)
   ·rw[ltL,if_pos rfl]
    rcases hk with⟨h1,h2⟩|⟨x,y,h1,h2,h3,h4⟩
    ·exact .inl ⟨by simp;omega,by rw[h2];simp⟩
    ·exact .inr ⟨x,y,by simpa using h1,by simpa using h2,h3,h4⟩
  ·exact ⟨0,Nat.zero_le _,Nat.zero_le _,λi z=>absurd z (Nat.not_lt_zero _), .inr ⟨p,q,rfl,rfl,e,by rw[ltL,if_neg e]⟩⟩
section
variable{X:Cx}{K:PySem.W.Frag}
theorem zdK{ps:List Str}{its:List Value}(r:Vals (ps.map V.str) its){i:Nat}{v:Value}(h:its[i]?=some v):∃p t,ps[i]?=some p/\v= .str p t:=by
 have hi:i<its.length:=by
  rcases Nat.lt_or_ge i its.length with z|z
  ·exact z
  ·rw[List.getElem?_eq_none z] at h;cases h
 have hp:i<ps.length:=by have:=r.length;rw[List.length_map] at this;omega
 obtain⟨u,hu,ru⟩:=r.get (i:=i) (x:= .str ps[i]) (by rw[List.getElem?_map,List.getElem?_eq_getElem hp];rfl)
 rw[hu] at h
 cases h
 obtain⟨t,rfl⟩:=ru
 exact⟨ps[i],t,List.getElem?_eq_getElem hp,rfl⟩
theorem zhk{ps:List Str}{its:List Value}(r:Vals (ps.map V.str) its):its.length=ps.length:=by have:=r.length;rw[List.length_map] at this;exact this.symm
theorem zmb{prog:Program}{w:World}{A:Around}{E:Value->Shared->Prop}{s:Shared}{Q:Value->Shared->Prop}{a b:Addr}{ps qs:List Str}{its its2:List Value}(ra:Vals (ps.map V.str) its)(rb:Vals (qs.map V.str) its2)(ha:IsTup s.heap a its.toArray)(hb:IsTup s.heap b its2.toArray)(hu:A.units<cLine)
 (q:Q (.bool (ltL ps qs)) s):wpAny (model prog w) A (richCompare .Lt (.ref a) (.ref b)) Q E s:=by
 obtain⟨⟨c1,d1,e1,f1⟩,ho,hc,n,hd⟩:=id ha
 obtain⟨⟨c2,d2,e2,f2⟩,ho2,hc2,n2,hd2⟩:=id hb
 simp only at hc hd hc2 hd2
 subst hc hd hc2 hd2
 obtain⟨k,k1,k2,he,hk⟩:=zlY ps qs
 have l1:=zhk ra
 have l2:=zhk rb
 refine richCompare_meets_room (op:= .Lt) ⟨_,ho,rfl⟩ ⟨_,ho2,rfl⟩ PySem.F.slot_tuple_lt PySem.F.entry_tuple_lt (PySem.F.args_tuple_lt_2 _ _) (zcF a b n n2 d1 d2 f1 f2 its its2 k (ltL ps qs)) ⟨ho,ho2,?_,by omega,by omega,?_,?_⟩ hu
 ·intro prog w i x y hi hx hy E Q hq
  obtain⟨p,t,hp,rfl⟩:=zdK ra hx
  obtain⟨q',t',hp',rfl⟩:=zdK rb hy
  have e:p=q':=by
   have:=he i hi
   rw[hp,hp'] at this;exact Option.some.inj this
  refine wpAny_eqBool_str ?_
  rw[decide_eq_true e];exact hq
 ·rcases hk with⟨h1,h2⟩|⟨x,y,h1,h2,h3,h4⟩
  ·exact .inl ⟨by omega,by rw[h2,l1,l2]⟩
  ·have hx:k<its.length:=by
    rw[l1]
    rcases Nat.lt_or_ge k ps.length with z|z
    ·exact z
    ·rw[List.getElem?_eq_none z] at h1;cases h1
   have hy:k<its2.length:=by
    rw[l2]
    rcases Nat.lt_or_ge k qs.length with z|z
    ·exact z
    ·rw[List.getElem?_eq_none z] at h2;cases h2
   obtain⟨p,t,hp,e1⟩:=zdK ra (List.getElem?_eq_getElem hx)
   obtain⟨q',t',hp',e2⟩:=zdK rb (List.getElem?_eq_getElem hy)
   rw[h1] at hp
   rw[h2] at hp'
   cases hp
   cases hp'
   refine .inr ⟨_,_,List.getElem?_eq_getElem hx,List.getElem?_eq_getElem hy,λprog w E Q hq=>?_,λprog w E Q hq=>?_⟩
   ·rw[e1,e2]
    refine wpAny_eqBool_str ?_
    rw[decide_eq_false h3];exact hq
   ·rw[e1,e2]
    rw[h4] at hq
    exact(PyProof.Rows.lt_str hq:wpAny (model prog w) A.in1 (compareOp .Lt (.str x t) (.str y t')) Q E s)
 ·exact ⟨(λx=>nomatch x),q⟩
noncomputable def ltK(k1 k2:Int×Int×List Str):Bool:=if k1.1=k2.1 then(if k1.2.1=k2.2.1 then ltL k1.2.2 k2.2.2 else decide (k1.2.1<k2.2.1))else decide (k1.1<k2.1)
def zpC(H:Hp)(x:V)(k:Int×Int×List Str):Prop:=∃a p,x= .ref a/\H a=some (.tup [.int k.1, .int k.2.1, .ref p])/\H p=some (.tup (k.2.2.map V.str))/\∀y∈k.2.2,PyData.strOk y=true
theorem zgy:∀(ps:List Str),ltL ps ps=false
 |[]=>rfl
 |p::ps=>by rw[ltL,if_pos rfl];exact zgy ps
theorem zo3{x y z:V}{us:List Value}(r:Vals [x,y,z] us):∃a b c,us=[a,b,c]/\RelV x a/\RelV y b/\RelV z c:=by
 cases r with
 |cons h1 r=>cases r with
  |cons h2 r=>cases r with
   |cons h3 r=>
    cases r
    exact⟨_,_,_,rfl,h1,h2,h3⟩
end
end L2
namespace RW
open PySem PySem.Spec PyProof.Rows L2
noncomputable def znT:Sp:=λvs H Q _=>∃(v:V) (pw pm:Addr) (x:Str) (ws ms:List Str) (g:Str) (hs:List Str) (ps:List (Str×Str)) (lks hds:List D) (j:Nat) (rs:List D) (i:Int),vs=[v, .ref pw, .ref pm]/\Rep H v (zar g hs ps lks hds)/\TownOk g hs ps lks hds/\hs[j]?=some x/\lks[j]?=some (.tup rs)/\H pw=some (.tup ((x::ws).map V.str))/\H pm=some (.tup (ms.map V.str))/\(∀y∈x::ws,zi y=true)/\(∀y∈ms,zi y=true)/\ws.length<=90/\ms.length<=100/\zP (x::ws) ms rs= .int i/\∀(u:V) (H':Hp),zpC H' u (-i,((x::ws).length:Int),x::ws)->Same H H'->Q u H'
end RW
namespace HT
open PySem PySem.Spec PyProof.Rows
section
variable{prog:Program}{w:World}{A:Around}{E:Value->Shared->Prop}{s:Shared}
end
end HT
namespace L2
open PySem PySem.Spec PyProof.Rows
section
variable{X:Cx}{e st:Expr}{te ts:TE}{p1 p2 p3 pos:Pos}{tk:Tok}
end
end L2
namespace RW
open PySem PySem.Spec PyProof.Rows L2
section
variable{te tf:TE}{ta:TA}{σ:L2.St}{H:Hp}{d:D}{ds es:List D}{K:PySem.W.Frag}
end
end RW
namespace L2
open PySem PySem.Spec PyProof.Rows
noncomputable def Itd(d:Addr)(o:Obj)(u:HO)(ks:List V):It:=⟨λi H=>i<ks.length/\H d=some (.frz o u),λi H x H'=>H'=H/\ks[i]?=some x,λi H=>ks.length<=i/\H d=some (.frz o u)⟩
theorem zn7{d:Addr}{o:Obj}{u:HO}{ks:List V}:Wk (Itd d o u ks) ks.length (λi x=>ks[i]?=some x) (λH=>H d=some (.frz o u)) where
 stop:=λi H h l=>⟨l,h⟩
 go:=λi H h l=>⟨l,h⟩
 yld:=λi H x H' h l y=>y
section
variable{X:Cx}{pos:Pos}{pins:List (Addr×Obj)}{σ:St}{H:Hp}{s:Shared}
theorem zno{P:Program}{w:World}{K:PySem.W.Frag}{tg:Expr}(d it:Addr)(hne:d≠it)(o:Obj)(u:HO)(vs:List V)(ks:List Value)(ep:Nat)(es:Array DictEntry)(ex:o.ExactDict)(dat:o.data= .dict es ep)(hes:es.toList.map (·.key)=ks)(rel:∀(i:Nat) (v:V),vs[i]?=some v->∃u,ks[i]?=some u/\RelV v u)(hl:vs.length=ks.length):
 Turn P w K tg (Itd d o u vs) [it] it (λi h=>i<=ks.length/\h.IsKeyIter it d i ks.length ep) where
 mem:=by simp
 obj:=λi h st b hb=>by
  obtain⟨_,o,e,c,dd⟩:=st
  have:b=it:=by simpa using hb
  subst this
  exact⟨o,e,λv z=>by rw[dd] at z;cases z⟩
 keep:=λi h h' st k=>⟨st.1,st.2.at λo e=>k it (by simp) o e⟩
 item:=by
  intro X hP hw hK hc i pins s σ H E I hf st hg
  subst hP hw hK
  have hi:i<vs.length:=hg.1
  have raw:RawD s.heap d ks ep:=⟨o,es,((show ObjOk X.prog X.w H s.heap d (.frz o u)from I.hok d _ hg.2)).1,ex,dat,hes⟩
  obtain⟨u',hu,ru⟩:=rel i vs[i] (by simp[hi])
  obtain⟨f0,f1,f2,f3,f4,f5⟩:=hf it (by simp)
  refine zhF st.2 raw hu λh' st' sb=>?_
  have I1:Inv X pins σ H {s with heap:=h'}:=I.turned (t':=s.toks) (λb o hb e=>(sb.2 b hb).trans e) f0 f1 f3 f4 f5
  obtain⟨o2,e,c,dd⟩:=id st'
  exact⟨u',rfl,zhn (s:={s with heap:=h'}) e c dd (by decide) ⟨vs[i],H,I1,ru,⟨rfl,by simp[hi]⟩,⟨by omega,st'⟩,λb hb=>(hf b hb).1⟩⟩
 done:=by
   intro X hP hw hK hc i pins s σ H E I hf st hg
   subst hP hw hK
   have hi:vs.length<=i:=hg.1
   have raw:RawD s.heap d ks ep:=⟨o,es,((show ObjOk X.prog X.w H s.heap d (.frz o u)from I.hok d _ hg.2)).1,ex,dat,hes⟩
   have ei:i=ks.length:=by have:=st.1;omega
   subst ei
   obtain⟨f0,f1,f2,f3,f4,f5⟩:=hf it (by simp)
   exact zjB (I.ok.hd hc) st.2 raw λh' eb=>⟨rfl,I.turned (t':=s.toks) (λb o hb e=>eb b o hb e) f0 f1 f3 f4 f5⟩
 self:=λ_ _ _ _ _ st h=>wpAny_pyIter_keyiter st.2 h
end
section
variable{X:Cx}{K:PySem.W.Frag}
end
section
variable{X:Cx}{pos:Pos}
end
end L2
namespace HT
open PySem PySem.Spec PyProof.Rows
end HT
namespace L2
open PySem PySem.Spec PyProof.Rows
section
variable{X:Cx}{e i o:Expr}{te td ty:TE}{p1 p2 p3 pos:Pos}{tk:Tok}
theorem zlg(hu:X.A.units+1<cLine)(ho:QE X o td)(hi:QE X i ty)(hs:zoA i:=by exact λ_ _=>rfl):QE X (.Subscript o i pos) (zn3 td ty):=⟨znp hu ho.o hi.o hs⟩
end
end L2
namespace RW
open PySem PySem.Spec PyProof.Rows L2
theorem zkY:∀{ps qs rs:List Str},ltL ps qs=true->ltL qs rs=true->ltL ps rs=true
 |[],[],_,h,_=>by rw[ltL] at h;cases h
 |_::_,[],_,h,_=>by rw[ltL] at h;cases h
 |_,_::_,[],_,h=>by rw[ltL] at h;cases h
 |[],_::_,_::_,_,_=>by rw[ltL]
 |p::ps,q::qs,r::rs,h1,h2=>by
  rw[ltL] at h1 h2⊢
  by_cases z:p=q
  ·subst z
   rw[if_pos rfl] at h1
   by_cases y:p=r
   ·subst y
    rw[if_pos rfl] at h2⊢
    exact zkY h1 h2
   ·rw[if_neg y] at h2⊢
    exact h2
  ·rw[if_neg z] at h1
   by_cases y:q=r
   ·subst y
    rw[if_neg z];exact h1
   ·rw[if_neg y] at h2
    have h3:=zfl h1 h2
    rw[if_neg (ziY h3)]
    exact h3
theorem zmE(k:Int×Int×List Str):ltK k k=false:=by
 unfold ltK
 rw[if_pos rfl,if_pos rfl];exact zgy _
theorem zkQ{k1 k2 k3:Int×Int×List Str}(h1:ltK k1 k2=true)(h2:ltK k2 k3=true):ltK k1 k3=true:=by
 unfold ltK at *
 by_cases z:k1.1=k2.1
 ·rw[if_pos z] at h1
  by_cases z2:k2.1=k3.1
  ·rw[if_pos z2] at h2
   rw[if_pos (z.trans z2)]
   by_cases y:k1.2.1=k2.2.1
   ·rw[if_pos y] at h1
    by_cases y2:k2.2.1=k3.2.1
    ·rw[if_pos y2] at h2
     rw[if_pos (y.trans y2)]
     exact zkY h1 h2
    ·rw[if_neg y2] at h2
     rw[if_neg (by rw[y];exact y2)]
     have:=of_decide_eq_true h2
     exact decide_eq_true (by omega)
   ·rw[if_neg y] at h1
    have h1:=of_decide_eq_true h1
    by_cases y2:k2.2.1=k3.2.1
    ·rw[if_neg (by omega)]
     exact decide_eq_true (by omega)
    ·rw[if_neg y2] at h2
     have h2:=of_decide_eq_true h2
     rw[if_neg (by omega)]
     exact decide_eq_true (by omega)
  ·rw[if_neg z2] at h2
   have h2:=of_decide_eq_true h2
   rw[if_neg (by omega)]
   exact decide_eq_true (by omega)
 ·rw[if_neg z] at h1
  have h1:=of_decide_eq_true h1
  by_cases z2:k2.1=k3.1
  ·rw[if_neg (by omega)]
   exact decide_eq_true (by omega)
  ·rw[if_neg z2] at h2
   have h2:=of_decide_eq_true h2
   rw[if_neg (by omega)]
   exact decide_eq_true (by omega)
theorem znh{k1 k2:Int×Int×List Str}(h:ltK k1 k2=true):ltK k2 k1=false:=by
 cases e:ltK k2 k1 with
 |false=>rfl
 |true=>have:=zkQ h e;rw[zmE] at this;cases this
noncomputable abbrev WM:=List Str×List Str
noncomputable def wI(rs:List D)(e:WM):Int:=match zP e.1 e.2 rs with| .int a=>a|_=>0
noncomputable def kE(rs:List D)(e:WM):Int×Int×List Str:=(-(wI rs e),(e.1.length:Int),e.1)
mutual
theorem znk:∀d:D,(pyD d).eqv (pyD d)=true
 | .non=>by rw[pyD,PyData.eqv]
 | .bl b=>by rw[pyD,PyData.eqv];simp
 | .int i=>by rw[pyD,PyData.eqv];simp
 | .str x=>by rw[pyD,PyData.eqv];simp
 | .tup ds=>by rw[pyD,PyData.eqv];exact zjT ds
 | .oth=>by rw[pyD,PyData.eqv]
theorem zjT:∀ds:List D,PyData.eqvAll (pyL ds) (pyL ds)=true
 |[]=>by rw[pyL,PyData.eqvAll]
 |d::ds=>by rw[pyL,PyData.eqvAll,znk d,zjT ds];rfl
end
theorem zbc{n:Nat}:∀{xs:List PyData},(∀x∈xs,x.depth<=n)->PyData.depthAll xs<=n
 |[],_=>by rw[PyData.depthAll];exact Nat.zero_le _
 |x::xs,h=>by
  rw[PyData.depthAll]
  have h1:=h x List.mem_cons_self
  have h2:=zbc (n:=n) λy hy=>h y (List.mem_cons_of_mem _ hy)
  omega
end RW
namespace HT
open PySem PySem.Spec PyProof.Rows L2
section
variable{prog:Program}{w:World}{A:Around}{E:Value->Shared->Prop}{s:Shared}
def SqH(t:Bool)(h:Heap)(a:Addr)(items:Array Value):Prop:=if t then h.IsTuple a items else h.IsList a items
def ItH(t:Bool)(h:Heap)(it a:Addr)(i:Nat):Prop:=if t then h.IsTupleIter it a i else h.IsListIter it a i
end
end HT
namespace L2
open PySem PySem.Spec PyProof.Rows
section
variable{X:Cx}{K:PySem.W.Frag}
structure ZpA(z TI TO i1 i2:Addr):Prop where
 TIz:TI≠z
 TOz:TO≠z
 i1z:i1≠z
 i2z:i2≠z
 TITO:TI≠TO
 TIi1:TI≠i1
 TIi2:TI≠i2
 TOi1:TO≠i1
 TOi2:TO≠i2
 i12:i1≠i2
end
section
variable{prog:Program}{w:World}{A:Around}{R:Result->Shared->Prop}{s:Shared}{elt t1 i1 t2 i2:Expr}{f1 f2:List Expr}{scope:Scope}{pos:Pos}{it acc:Value}{env:Env}
end
section
variable{X:Cx}{elt tg iter tg2 iter2:Expr}{ifs ifs2:List Expr}{scope osc:Scope}{pos:Pos}{N':List Str}{src:List (Option Nat)}{wi wi2:TI}{g g2:TG}{tc tc2:TT}{te:TE}
end
def zpK(v:V)(y:Str):Prop:=v= .str y\/∃i:Int,v= .int i/\y=(toString i:String)/\i.natAbs.log2<1920
section
variable{X:Cx}{e:Expr}{te:TE}{pos:Pos}{es:List Expr}{ts:List TE}
structure QP1(X:Cx)(e:Expr)(te:TE):Prop where
 o:∀(pins:List (Addr×Obj)) (s:Shared) (σ:St) (H:Hp) (Q:Str->Hp->Prop),Inv X pins σ H s->(te σ H λv H1=>∃y,zpK v y/\y.length<=sizeLine/\Q y H1)->
  wpAny (model X.prog X.w) X.A (eval e X.env) (λu s1=>∃y t H1,u= .str y t/\Inv X pins σ H1 s1/\Q y H1) X.xe s
inductive QJ(X:Cx):List Expr->List TE->Prop
 |nil:QJ X [] []
 |cons {e:Expr} {t:TE} {es:List Expr} {ts:List TE} (h:QP1 X e t) (r:QJ X es ts):QJ X (e::es) (t::ts)
end
section
variable{prog:Program}{w:World}{A:Around}{E:Value->Shared->Prop}{s:Shared}
end
section
variable{X:Cx}
end
end L2
namespace RW
open PySem PySem.Spec PyProof.Rows L2
theorem zeO(x y:Str):(x ++y).length=x.length+y.length:=Array.size_append
noncomputable def zpD(i:Int):Str:=(toString i:String)
theorem znc:∀n∈List.range 1999,(zpD ((n:Int) -999)).length<=4:=by decide +kernel
theorem zls{i:Int}(h1: -999<=i)(h2:i<=999):(zpD i).length<=4:=by
 have:=znc (i+999).toNat (List.mem_range.mpr (by omega))
 rwa[show(((i+999).toNat:Nat):Int) -999=i by omega] at this
theorem zkb{i:Int}(h1: -999<=i)(h2:i<=999):i.natAbs.log2<1920:=by
 have h:i.natAbs<1000:=by omega
 rcases Nat.eq_zero_or_pos i.natAbs with z|z
 ·rw[z];decide
 ·exact Nat.lt_trans ((Nat.log2_lt (by omega)).mpr (show i.natAbs<2^10 by omega)) (by decide)
theorem zpP{sep x y:Str}{r:List Str}:Str.join sep (x::y::r)=x ++sep ++Str.join sep (y::r):=rfl
theorem zh6{sep:Str}{c m:Nat}(hs:sep.length<=m):∀{xs:List Str},(∀x∈xs,x.length<=c)->(Str.join sep xs).length<=xs.length*(c+m)
 |[],_=>by show(Str.empty).length<=_;exact Nat.zero_le _
 |[x],h=>by show x.length<=1*(c+m);have:=h x (by simp);omega
 |x::y::r,h=>by
  rw[zpP,zeO,zeO]
  have h1:=h x (by simp)
  have h2:=zh6 hs (xs:=y::r) λz hz=>h z (List.mem_cons_of_mem _ hz)
  rw[List.length_cons,Nat.add_mul,Nat.one_mul]
  omega
end RW
namespace L2
open PySem PySem.Spec PyProof.Rows
section
variable{X:Cx}{K:PySem.W.Frag}
end
end L2
namespace RW
open PySem PySem.Spec PyProof.Rows L2
end RW
namespace HT
open PySem PySem.Spec PyProof.Rows L2
section
variable{prog:Program}{w:World}{A:Around}{E:Value->Shared->Prop}{s:Shared}
end
section
variable{prog:Program}{w:World}{A:Around}{E:Value->Shared->Prop}{s:Shared}{K:Type}[DecidableEq K]{knd:KeyKind prog w K}
structure DzAt(h:Heap)(knd:KeyKind prog w K)(t1 t2:Bool)(z TI i1 i2 l1 l2 d:Addr)(xs ys:Array Value)(kvs:List (K×Value))(i:Nat):Prop where
 TI:IsPair h TI (.ref i1) (.ref i2)
 p1:ItH t1 h i1 l1 i
 p2:ItH t2 h i2 l2 i
 q1:SqH t1 h l1 xs
 q2:SqH t2 h l2 ys
 dd:h.DictOf knd d kvs
structure DzD(z TI TO i1 i2 l1 l2 d:Addr):Prop extends ZipApart z TI TO i1 i2 l1 l2 where
 dz:d≠z
 dTI:d≠TI
 di1:d≠i1
 di2:d≠i2
 dl1:d≠l1
 dl2:d≠l2
 TIl1:True
end
end HT
namespace L2
open PySem PySem.Spec PyProof.Rows
section
variable{X:Cx}
end
end L2
namespace RW
open PySem PySem.Spec PyProof.Rows L2
section
variable{X:Cx}
end
def Shw(c k:Nat)(d:D):Prop:=okD d=true/\(pyD d).showable=true/\(pyD d).depth<=k/\(pyD d).shown.length<=c
theorem Shw.mono{c k c' k':Nat}{d:D}(h:Shw c k d)(h1:c<=c')(h2:k<=k'):Shw c' k' d:=⟨h.1,h.2.1,Nat.le_trans h.2.2.1 h2,Nat.le_trans h.2.2.2 h1⟩
theorem zjA{x:Str}(h:PyData.strOk x=true)(hl:x.length<=8):Shw 82 1 (.str x):=by
 refine⟨by rw[okD];exact h,by rw[pyD,PyData.showable],by rw[pyD,PyData.depth];omega,?_⟩
 rw[pyD,PyData.shown]
 have hc:∀c∈x.cps.toList,c<16^8:=λc hc=>by
  unfold PyData.strOk at h
  rw[Array.all_eq_true'] at h
  have:=of_decide_eq_true (h c (Array.mem_toList_iff.mp hc))
  omega
 have:=StrLaws.reprText_len x hc
 omega
theorem zjj{i:Int}(h1: -999<=i)(h2:i<=999):Shw 82 1 (.int i):=by
 refine⟨by rw[okD],by rw[pyD,PyData.showable];exact decide_eq_true (zkb h1 h2),by rw[pyD,PyData.depth];omega,?_⟩
 rw[pyD,PyData.shown]
 exact Nat.le_trans (zls h1 h2) (by decide)
theorem zmz:Shw 82 1 .non:=by
 refine⟨by rw[okD],by rw[pyD,PyData.showable],by rw[pyD,PyData.depth];omega,?_⟩
 rw[pyD,PyData.shown];decide
theorem zcZ:∀{xs:List PyData},(∀x∈xs,x.showable=true)->PyData.showableAll xs=true
 |[],_=>by rw[PyData.showableAll]
 |x::xs,h=>by rw[PyData.showableAll,h x List.mem_cons_self,zcZ λy hy=>h y (List.mem_cons_of_mem _ hy)];rfl
theorem zdI:∀{xs:List PyData},PyData.shownAll xs=xs.map PyData.shown
 |[]=>by rw[PyData.shownAll];rfl
 |x::xs=>by rw[PyData.shownAll,List.map_cons,zdI]
theorem zbF{ds:List D}{c k:Nat}(m:Nat)(hm:ds.length<=m)(h:∀d∈ds,Shw c k d):Shw (m*(c+2)+3) (k+1) (.tup ds):=by
 refine⟨by rw[okD];exact zk7 λd hd=>(h d hd).1,?_,?_,?_⟩
 ·rw[pyD,PyData.showable,zeG]
  exact zcZ λx hx=>by obtain⟨d,hd,rfl⟩:=List.mem_map.mp hx;exact(h d hd).2.1
 ·rw[pyD,PyData.depth,zeG]
  have:=zbc (n:=k) (xs:=ds.map pyD) λx hx=>by obtain⟨d,hd,rfl⟩:=List.mem_map.mp hx;exact(h d hd).2.2.1
  omega
 ·rw[pyD,PyData.shown,zeG,zdI,List.map_map]
  have hc:∀x∈ds.map (PyData.shown∘pyD),x.length<=c:=λx hx=>by obtain⟨d,hd,rfl⟩:=List.mem_map.mp hx;exact(h d hd).2.2.2
  have jl:=zh6 (sep:=", ") (m:=2) (by decide) hc
  rw[List.length_map] at jl
  unfold tupleText
  rw[zeO,zeO]
  have l1:("(":Str).length=1:=rfl
  have l2:(Str.ofString (if(ds.map (PyData.shown∘pyD)).length==1 then",)"else ")")).length<=2:=by split<;>decide
  have:ds.length*(c+2)<=m*(c+2):=Nat.mul_le_mul_right _ hm
  rw[l1]
  have l2':(Str.ofString (if(ds.map (PyData.shown∘pyD)).length==1 then",)"else ")":String)).length<=2:=l2
  omega
theorem zfv{x:Str}(h:zi x=true):Shw 82 1 (.str x):=zjA (zaj h) (by
 unfold zi at h
 simp only[Bool.and_eq_true,decide_eq_true_eq] at h
 omega)
theorem zcJ{a b:D}{c k:Nat}(ha:Shw c k a)(hb:Shw c k b):Shw (2*(c+2)+3) (k+1) (.tup [a,b]):=zbF 2 (Nat.le_refl 2) λd hd=>by
 simp only[List.mem_cons,List.not_mem_nil,or_false] at hd
 rcases hd with rfl|rfl
 ·exact ha
 ·exact hb
theorem zc7{w:Str}(h:w∈(["by","from","to","mark","long","not","keep","put","strike"]:List Str)):Shw 82 1 (.str w):=by
 simp only[List.mem_cons,List.not_mem_nil,or_false] at h
 rcases h with rfl|rfl|rfl|rfl|rfl|rfl|rfl|rfl|rfl<;>exact zjA (by decide +kernel) (by decide)
theorem zgj{d:D}(h:zC d=true):Shw 171 2 d:=by
 obtain⟨w,e,rfl⟩:=zca d h
 rcases zba h with⟨rfl,i,rfl,i0,i9⟩|⟨hn,y,rfl,hy⟩
 ·exact zcJ (zc7 (by decide)) (zjj (by omega) (by omega))
 ·exact zcJ (zc7 (by rcases zdG hn with rfl|rfl|rfl|rfl<;>decide)) (zfv hy)
theorem zkV{d:D}(h:zJ d=true):Shw 349 3 d:=by
 obtain⟨w,e,rfl⟩:=zf7 d h
 rw[zdV] at h
 by_cases z:w="not"
 ·subst z
  rw[if_pos rfl] at h
  exact zcJ ((zc7 (by decide)).mono (by decide) (by decide)) (zgj h)
 ·rw[if_neg z] at h
  exact(zgj h).mono (by decide) (by decide)
theorem zf4{cs:List D}(hl:cs.length<=4)(h:∀c∈cs,zJ c=true):Shw 1407 4 (.tup cs):=zbF 4 hl λc hc=>zkV (h c hc)
theorem zki{d:D}(h:zbN d=true):Shw 82 1 d:=by
 cases d with
 |non=>exact zmz
 |int i=>
  have h:(decide ((-999:Int)<=i)&&decide (i<=999))=true:=h
  rw[Bool.and_eq_true] at h
  exact zjj (of_decide_eq_true h.1) (of_decide_eq_true h.2)
 |_=>cases h
theorem znD{d:D}(h:zb8 d=true):Shw 171 2 d:=by
 rcases zli h with rfl|⟨w,y,rfl,hw,hy⟩
 ·exact (zbF (ds:=[.str "keep"]) (c:=82) (k:=1) 1 (Nat.le_refl 1) λd hd=>by rw[List.mem_singleton.mp hd];exact zc7 (by decide)).mono (by decide) (by decide)
 ·exact zcJ (zc7 (by rcases hw with rfl|rfl<;>decide)) (zfv hy)
theorem zhO{d:D}(h:zbI d=true):Shw 254073 6 d:=by
 cases d with
 |tup rs=>
  have h:(decide (rs.length<=90)&&rs.all zL)=true:=h
  rw[Bool.and_eq_true] at h
  refine zbF (c:=2821) (k:=5) 90 (of_decide_eq_true h.1) λr hr=>?_
  have hk:=List.all_eq_true.mp h.2 r hr
  unfold zL at hk
  obtain⟨c,x,rfl,hk⟩:=zi6 (f:=λc x=>zaD c&&zbN x&&!zdM c) hk
  rw[Bool.and_eq_true,Bool.and_eq_true] at hk
  obtain⟨cs,rfl,h4,hc⟩:=zfB hk.1.1
  exact zcJ (zf4 h4 hc) ((zki hk.1.2).mono (by decide) (by decide))
 |_=>cases h
theorem zks{d:D}(h:zbY d=true):Shw 254073 6 d:=by
 cases d with
 |tup rs=>
  have h:(decide (rs.length<=90)&&rs.all zbW)=true:=h
  rw[Bool.and_eq_true] at h
  refine zbF (c:=2821) (k:=5) 90 (of_decide_eq_true h.1) λr hr=>?_
  obtain⟨cs,x,rfl,h4,hc,hx⟩:=zjN (List.all_eq_true.mp h.2 r hr)
  exact zcJ (zf4 h4 hc) ((znD hx).mono (by decide) (by decide))
 |_=>cases h
theorem zmg{g:Str}{hs:List Str}{ps:List (Str×Str)}{lks hds:List D}(T:TownOk g hs ps lks hds)(hp:ps.length<=1000):Shw 12703778 8 (zar g hs ps lks hds):=by
 have hn:∀x∈hs,Shw 82 1 (.str x):=λx hx=>zfv (T.names x hx)
 refine zbF (c:=2540753) (k:=7) 5 (Nat.le_refl 5) λd hd=>?_
 simp only[List.mem_cons,List.not_mem_nil,or_false] at hd
 rcases hd with rfl|rfl|rfl|rfl|rfl
 ·exact (hn g T.goal).mono (by decide) (by decide)
 ·exact (zbF 10 (by rw[List.length_map];exact T.ten) λd hd=>by obtain⟨x,hx,rfl⟩:=List.mem_map.mp hd;exact hn x hx).mono (by decide) (by decide)
 ·exact (zbF 1000 (by rw[List.length_map];exact hp) λd hd=>by
   obtain⟨p,hp,rfl⟩:=List.mem_map.mp hd
   obtain⟨t1,t2,_⟩:=T.ties p hp
   exact zcJ (hn _ t1) (hn _ t2)).mono (by decide) (by decide)
 ·exact zbF 10 (by rw[T.ll];exact T.ten) λd hd=>zhO (T.likes d hd)
 ·exact zbF 10 (by rw[T.lh];exact T.ten) λd hd=>zks (T.hands d hd)
end RW
namespace RW
open PySem PySem.W PyProof.Rows L2
section
variable{N:Nat}{lt:Nat->Nat->Bool}
end
end RW
namespace L2
open PySem PySem.Spec PySem.W PyProof.Rows
theorem zie:∀{a b:List Str},a≠b->ltL a b=false->ltL b a=true
 |[],[],h,_=>absurd rfl h
 |[],_::_,_,e=>by cases e
 |_::_,[],_,_=>rfl
 |x::xs,y::ys,h,e=>by
  rw[ltL] at e⊢
  by_cases z:x=y
  ·rw[if_pos z] at e;rw[if_pos z.symm];exact zie (λq=>h (by rw[z,q])) e
  ·rw[if_neg z] at e;rw[if_neg (Ne.symm z)];exact zcL z e
section
variable{prog:Program}{w:World}{A:Around}{E:Value->Shared->Prop}{s:Shared}
end
section
variable{X:Cx}{K:PySem.W.Frag}
end
end L2
namespace L2
open PySem PySem.Spec PyProof.Rows
section
variable{X:Cx}{K:PySem.W.Frag}{o:Expr}{to:TE}{name:Str}{apos cpos:Pos}{T id:String}{r:V->List V->Hp->VK->Prop}
end
section
variable{X:Cx}{K:PySem.W.Frag}
end
end L2
namespace RW
open PySem PySem.Spec PyProof.Rows L2
noncomputable def zmy:List Str->Bool
 |[a,b,w]=>zi a&&zi b&&(if w="equal"then ltS a b else decide (w="over")&&!decide (a=b))
 |_=>false
noncomputable def ziX(r:List Str):List Str:=srt (r.take 2)
structure KinOk(rs:List (List Str)):Prop where
 row:∀r∈rs,zmy r=true
 rise:rs.Pairwise (λa b=>ltL a b=true)
 ties:(rs.map ziX).Nodup
noncomputable def pr(a b:Str):List Str:=srt [a,b]
noncomputable abbrev at_(xs:List Str)(i:Nat):Str:=xs.getD i ""
structure KD62(xs:List Str)(ps:List (Nat×Nat))(k:Nat)(rs:List (List Str)):Prop where
 row:∀r∈rs,zmy r=true
 nd:(rs.map ziX).Nodup
 few:rs.length<=k
 old:∀r∈rs,∃q∈ps.take k,q.1<q.2/\ziX r=pr (at_ xs q.1) (at_ xs q.2)
section
variable{te tf:TE}{ta:TA}{σ:L2.St}{H:Hp}{P P':D->Prop}{d:D}{ds:List D}{n:Nat}{K:PySem.W.Frag}
end
end RW
namespace HT
open PySem PySem.Spec PyProof.Rows L2
section
variable{prog:Program}{w:World}{A:Around}{E:Value->Shared->Prop}{s:Shared}
end
end HT
namespace L2
open PySem PySem.Spec PyProof.Rows
section
variable{X:Cx}{tg:Expr}
end
section
variable{X:Cx}
theorem zjc{c:Expr}{body:List Stmt}{tc:TT}{tb:TS}{pos:Pos}(hc:QT X c tc)(hb:QB X body tb)(hp:PassesOwn (model X.prog X.w) X.A X.env X.xe:=by exact PassesOwn.never):QS X (.While c body [] pos) (zlj tc tb):=⟨zmh hp hc.o hb.o⟩
end
end L2
namespace RW
open PySem PySem.Spec PyProof.Rows L2
noncomputable def zqd:D->List D| .tup rs=>rs|_=> []
noncomputable def zA:List Str->List D->Str->List D
 |h::hs,d::ds,x=>if h=x then zqd d else zA hs ds x
 |_,_,_=> []
theorem zgz{x:Str}{rs:List D}:∀{hs:List Str} {ds:List D} {j:Nat},hs.Nodup->hs[j]?=some x->ds[j]?=some (.tup rs)->zA hs ds x=rs
 |[],_,j,_,h1,_=>by simp at h1
 |h::hs,[],j,_,_,h2=>by simp at h2
 |h::hs,d::ds,0,_,h1,h2=>by
  simp at h1 h2
  subst h1 h2
  rw[zA,if_pos rfl];rfl
 |h::hs,d::ds,j+1,nd,h1,h2=>by
  simp only[List.getElem?_cons_succ] at h1 h2
  rw[List.nodup_cons] at nd
  have hne:¬h=x:=λe=>nd.1 (e▸List.mem_of_getElem? h1)
  rw[zA,if_neg hne]
  exact zgz nd.2 h1 h2
noncomputable def zcC:D->Bool| .non=>true|_=>false
theorem zmP{H:Hp}{u:V}{d:D}(r:Rep H u d):decide (u=V.non)=zcC d:=by
 cases r<;>first|rfl|exact decide_eq_false (λz=>by cases z)
structure Mr(O t:List Str):Prop extends Mk O t where
 rise:t.Pairwise (λa b=>ltS a b=true)
end RW
namespace L2
section
variable{α:Type}{P:List α->Prop}
theorem of1(h:∀a,P [a]):∀us:List α,us.length=1->P us
 |[a],_=>h a
theorem of2(h:∀a b,P [a,b]):∀us:List α,us.length=2->P us
 |[a,b],_=>h a b
theorem of3(h:∀a b c,P [a,b,c]):∀us:List α,us.length=3->P us
 |[a,b,c],_=>h a b c
theorem of4(h:∀a b c d,P [a,b,c,d]):∀us:List α,us.length=4->P us
 |[a,b,c,d],_=>h a b c d
end
end L2
namespace HT
open PySem PySem.Spec PyProof.Rows L2
section
variable{prog:Program}{w:World}{A:Around}{R:Result->Shared->Prop}{I:Addr}{fp wr:List Addr}{n:Nat}{P:Nat->Value->Prop}{St:Nat->Heap->Prop}
end
section
variable{prog:Program}{w:World}{A:Around}{E:Value->Shared->Prop}{s:Shared}
end
end HT
namespace L2
open PySem PySem.Spec PyProof.Rows
section
variable{X:Cx}
end
section
variable{X:Cx}
end
end L2
namespace L2
open PySem PySem.W PySem.Spec PyProof.Rows PyProof.V
section
variable{X:Cx}
end
end L2
namespace HT
open PySem PySem.Spec PyProof.Rows L2
section
variable{prog:Program}{w:World}{A:Around}{R:Result->Shared->Prop}{I:Addr}{fp wr:List Addr}{n:Nat}{P:Nat->Value->Prop}{St:Nat->Heap->Prop}
end
section
variable{prog:Program}{w:World}{A:Around}{E:Value->Shared->Prop}{s:Shared}
end
section
variable{prog:Program}{w:World}{A:Around}{E:Value->Shared->Prop}{s:Shared}
end
end HT
namespace L2
open PySem PySem.W PySem.Spec PyProof.Rows PyProof.V
section
variable{X:Cx}
end
end L2
namespace L2
open PySem PySem.Spec PyProof.Rows
section
variable{prog:Program}{w:World}{A:Around}{R:Result->Shared->Prop}{s:Shared}{kx vx t1 i1 t2 i2:Expr}{f1 f2:List Expr}{scope:Scope}{pos:Pos}{it acc:Value}{env:Env}{d:Addr}
end
section
variable{X:Cx}{kx vx tg iter tg2 iter2:Expr}{ifs ifs2:List Expr}{scope osc:Scope}{pos:Pos}{N':List Str}{src:List (Option Nat)}{wi wi2:TI}{g g2:TG}{tc tc2:TT}{tk tv:TE}{y:Str}{py spos:Pos}{k:Nat}
end
section
variable{X:Cx}{pos:Pos}{pins:List (Addr×Obj)}{σ:St}{H:Hp}{s:Shared}
theorem Inv.frzK{d:Addr}{kvs:List (Key×V)}{o:Obj}(I:Inv X pins σ H s)(e:H d=some (.dK kvs))(g:s.heap.get? d=some o):Inv X pins σ (upd H d (.frz o (.dK kvs))) s where
 ok:=I.ok
 os:=I.os
 bare:=I.bare
 base:={
  keep:=I.base.keep
  slot:=I.base.slot
  free:=λb o h1 h2 h3=>by
   have:=I.base.free b o h1 h2 h3
   rw[ze λz=>by rw[z,e] at this;cases this];exact this
  there:=I.base.there
  tups:=λb xs h=>by
   have:=I.base.tups b xs h
   rw[ze λz=>by rw[z,e] at this;cases this];exact this
  frzs:=λb o u h=>by
   have:=I.base.frzs b o u h
   rw[ze λz=>by rw[z,e] at this;cases this];exact this
  tbls:=λb ps h=>by
   obtain⟨more,this⟩:=I.base.tbls b ps h
   exact⟨more,by rw[ze λz=>by rw[z,e] at this;cases this];exact this⟩}
 loc:=I.loc
 cell:=I.cell
 free:=by
  have:=I.free
  rw[ze λz=>by rw[z,e] at this;cases this];exact this
 freeC:=λx c h=>by
  have:=I.freeC x c h
  rw[ze λz=>by rw[z,e] at this;cases this];exact this
 pin:=λp hp=>by
  obtain⟨h1,h2,h3⟩:=I.pin p hp
  exact⟨h1,by rw[ze λz=>by rw[z,e] at h2;cases h2];exact h2,h3⟩
 hok:=λa o' h=>by
  have st:∀{u:HO},ObjOk X.prog X.w H s.heap a u->ObjOk X.prog X.w (upd H d (.frz o (.dK kvs))) s.heap a u:=λx=>x.stay (λ_ _ _ q=>q) (λb q=>by rw[ze λz=>by rw[z,e] at q;cases q];exact q) (λb xs q=>by rw[ze λz=>by rw[z,e] at q;cases q];exact q)
  by_cases z:a=d
  ·subst z
   rw[zb] at h
   cases h
   exact⟨g,st (I.hok a _ e)⟩
  ·rw[ze z] at h
   exact st (I.hok a _ h)
 len:=I.len
noncomputable def zoB(tl:TE):TI:=λσ H R=>tl σ H λx H1=>∃d kvs,x= .ref d/\H1 d=some (.dK kvs)/\∀(o:Obj),(kvs.map (·.1)).Nodup->R (Itd d o (.dK kvs) (kvs.map λkv=>kV kv.1)) (upd H1 d (.frz o (.dK kvs)))
theorem zmQ{tg l:Expr}{tl:TE}(hl:QE X l tl):QI X tg l (zoB tl):=⟨by
 intro pins s σ H R I h
 refine thn (hl.o pins s σ H _ I h) λv s1 ⟨x,H1,I1,r1,q1⟩=>?_
 obtain⟨d,kvs,rfl,e,q⟩:=q1
 cases r1
 obtain⟨hz,nsys,vs,rel,o,es,ep,g,ex,dat,ko,pr,nd⟩:=zjo I1.hok e
 have raw:RawD s1.heap d (es.toList.map (·.key)) ep:=⟨o,es,g,ex,dat,rfl⟩
 have vk:Vals (kvs.map λkv=>kV kv.1) (es.toList.map (·.key)):=by
  have h1:=zdB pr
  have h2:kvs.map (λkv=>kV kv.1)=vs.map λkv=>kV kv.1:=by
   have:=zde rel
   have:=congrArg (List.map kV) this
   rw[List.map_map,List.map_map] at this
   exact this
  rw[h2];exact h1
 have nd':(kvs.map (·.1)).Nodup:=by rw[zde rel];exact nd
 have dlt:d<s1.heap.objs.size:=Heap.lt_size g
 refine zij nsys raw ?_
 refine⟨s1.heap.objs.size,[s1.heap.objs.size],_,_,upd H1 d (.frz o (.dK kvs)),rfl,(I1.frzK e g).kept (t':=s1.toks) λb o e=>Heap.get?_push_of_some _ e,zno d _ (Nat.ne_of_lt dlt) o (.dK kvs) (kvs.map λkv=>kV kv.1) (es.toList.map (·.key)) ep es ex dat rfl (λi v hv=>vk.get hv) vk.length,⟨Nat.zero_le _,⟨_,Heap.get?_push_size _ rfl,rfl,rfl⟩⟩,λb hb=>?_,q o nd'⟩
 have:b=s1.heap.objs.size:=by simpa using hb
 subst this
 refine I1.fpOk (Nat.le_refl _) ?_
 rw[ze (Nat.ne_of_gt dlt)]
 exact I1.hok.fresh (Nat.le_refl _)⟩
theorem zpd(hu:X.A.units+1<cLine):OpR X (compareOp .NotIn) (λy x H Q=>∃a o,x= .ref a/\DGet H a y o/\Q (.bl (!o.isSome)) H):=by
 intro pins s σ H y x u v Q I ry rx h
 obtain⟨a,o,rfl,g,q⟩:=h
 cases rx
 exact znm hu I g ry λs' I'=>⟨.bl (!o.isSome),H,I',rfl,q⟩
end
end L2
namespace RW
open PySem PySem.Spec PyProof.Rows L2
structure RingG(G:Str->List Str)(xs:List Str):Prop where
 two:2<=xs.length
 ends:xs[0]?=xs[xs.length -1]?
 nd:(xs.drop 1).Nodup
 nxt:∀i a b,xs[i]?=some a->xs[i+1]?=some b->a∈G b
structure Led(H:Hp)(kvs:List (Key×V))(ks:List Str)(G:Str->List Str):Prop where
 keys:kvs.map (·.1)=ks.map Sum.inr
 nd:ks.Nodup
 at_:∀x∈ks,∃l,z3 kvs (Sum.inr x)=some (.ref l)/\H l=some (.lst ((G x).map V.str))
 sub:∀x∈ks,∀y∈G x,y∈ks
 short:∀x∈ks,x.length<=1000
 few:ks.length<=60/\∀x∈ks,(G x).length<=60
noncomputable def tol(tk:List (Key×V))(x:Str):Bool:=(z3 tk (Sum.inr x)).isSome
structure Tld63(tk:List (Key×V))(ks:List Str)(G:Str->List Str):Prop where
 opn:∀x∈ks,tol tk x=false->∃y∈G x,tol tk y=false
 sure:∀W:Str->Prop,(∀b,W b->∃a∈G b,W a)->∀b,W b->tol tk b=false
structure Peel(rs R:List (List Str)):Prop where
 sub:∀r∈R,r∈rs/\at_ r 2=("over":Str)
 out:∀W:Str->Prop,(∀b,W b->∃a,[a,b,"over"]∈rs/\W a)->∀a b,W a->W b->[a,b,"over"]∈rs->[a,b,"over"]∈R
structure LR(ks:List Str)(G:Str->List Str)(tk:List (Key×V))(ws:List Str):Prop where
 sub:∀x∈ws,x∈ks
 cov:∀x∈ks,x∈ws\/tol tk x=true
 sure:∀W:Str->Prop,(∀b,W b->∃a∈G b,W a)->∀b,W b->tol tk b=false
 inv:∀x v,z3 tk (Sum.inr x)=some v->∃n,v=V.int n
 len:tk.length+ws.length<=ks.length
structure LRi(ks:List Str)(G:Str->List Str)(tk:List (Key×V))(ws ys:List Str)(i:Nat)(fr:Bool):Prop where
 sub:∀x∈ys,x∈ks
 cov:∀x∈ks,x∈ys\/x∈ws.drop i\/tol tk x=true
 sure:∀W:Str->Prop,(∀b,W b->∃a∈G b,W a)->∀b,W b->tol tk b=false
 inv:∀x v,z3 tk (Sum.inr x)=some v->∃n,v=V.int n
 len:tk.length+ys.length+(ws.length -i)<=ks.length
 le:ys.length<=i
 lt:fr=true->ys.length<i
 opn:fr=false->∀x∈ys,∃y∈G x,tol tk y=false
structure Wlk(ks:List Str)(G:Str->List Str)(tk:List (Key×V))(row:List Str)(x:Str):Prop where
 nd:row.Nodup
 sub:∀y∈row,y∈ks
 ch:∀i a b,row[i]?=some a->row[i+1]?=some b->b∈G a
 nx:∀a,row[row.length -1]?=some a->x∈G a
 xk:x∈ks
 xu:tol tk x=false
end RW
namespace L2
open PySem PySem.Spec PyProof.Rows
end L2
namespace RW
open PySem PySem.Spec PyProof.Rows L2
structure EL(H H':Hp)(kvs:List (Key×V))(ks:List Str)(G:Str->List Str):Prop where
 keys:kvs.map (·.1)=ks.map Sum.inr
 nd:ks.Nodup
 at_:∀x∈ks,∃l,z3 kvs (Sum.inr x)=some (.ref l)/\H' l=some (.lst ((G x).map V.str))/\H l=none
 apart:∀x∈ks,∀y∈ks,∀l,z3 kvs (Sum.inr x)=some (.ref l)->z3 kvs (Sum.inr y)=some (.ref l)->x=y
theorem putK_keys{kvs:List (Key×V)}{k:Key}{v:V}:(k∈kvs.map (·.1)->(z6 kvs k v).map (·.1)=kvs.map (·.1))/\(¬k∈kvs.map (·.1)->(z6 kvs k v).map (·.1)=kvs.map (·.1)++ [k]):=by
 unfold z6
 have e:(kvs.any λkv=>decide (kv.1=k))=true↔k∈kvs.map (·.1):=by
  rw[List.any_eq_true,List.mem_map]
  constructor
  ·rintro ⟨kv,h,e⟩;exact⟨kv,h,of_decide_eq_true e⟩
  ·rintro ⟨kv,h,e⟩;exact⟨kv,h,decide_eq_true e⟩
 refine⟨λh=>?_,λh=>?_⟩
 ·rw[if_pos (e.mpr h),List.map_map]
  apply List.map_congr_left
  intro kv _
  show(if kv.1=k then(kv.1,v)else kv).1=kv.1
  split<;>rfl
 ·rw[if_neg (λz=>h (e.mp z)),List.map_append];rfl
noncomputable def kOf(t:List Str):List Key:=t.map Sum.inr
structure RT(H:Hp)(kvs:List (List Key×V))(rs:List (List Str)):Prop where
 len:kvs.length=rs.length
 at_:∀(j:Nat) (kv:List Key×V) (r:List Str),kvs[j]?=some kv->rs[j]?=some r->∃b,kv.1=kOf (ziX r)/\kv.2= .ref b/\H b=some (.tup (r.map V.str))
 row:∀r∈rs,zmy r=true
 nd:(rs.map ziX).Nodup
structure RG(xs:List Str)(m:Nat)(rs:List (List Str)):Prop where
 row:∀r∈rs,zmy r=true
 nd:(rs.map ziX).Nodup
 old:∀r∈rs,∃i j,i<m/\j<m/\ziX r=pr (at_ xs i) (at_ xs j)
structure MAt(K:PySem.W.Frag)(C:Addr)(x qual:Str)(st:Stmt)(ps:List Str)(f:Addr)(fd:FuncData):Prop where
 fn:Fun K x qual st f fd
 b:Binds K fd ps []
 m:Meth K C x f
end RW
namespace L2
open PySem PySem.Spec PyProof.Rows
section
variable{X:Cx}{o e value:Expr}{f m:Str}{pos pos' tpos apos:Pos}{ta tv:TE}{K:PySem.W.Frag}{es:List Expr}{t:TA}{C fa:Addr}{fd:FuncData}{CX:CXT}{k:Nat}{ps:List Str}{sp:Sp}{dvs:List V}{ds:List Value}{E:XK}
theorem zaO(he:QE X e ta)(hb:attributeBase e f X.env (eval e X.env)=eval e X.env:=by rfl):QE X (.Attribute e f pos) (zpE X.K ta f):=⟨zph he.o hb⟩
theorem zfg(ha:QE X o ta)(hv:QE X value tv)(hs:swapsWith value (some (.Attribute o f pos')) pos.line X.env=pure false:=by rfl):QS X (.Assign [.Attribute o f pos'] value pos) (zpT X.K ta tv f):=⟨zov ha.o hv.o hs⟩
theorem zlO{op:Operator}{rd:V->V->Hp->VK->Prop}(ha:QE X o ta)(hv:QE X value tv)(hop:zoI X op rd):QS X (.AugAssign (.Attribute o f tpos) op value pos) (zje X.K ta tv rd f):=⟨zkg ha.o hv.o hop⟩
theorem zd4{pl:Sem Bool}(he:QE X o ta)(c:Cls X.K C)(hm:Meth X.K C m fa)(F:FnOk X.prog X.w X.K X.mg X.base CX k fa fd ps sp)(hr:Room k X.A)(hb:Binds X.K fd ps ds)(hd:Vals dvs ds)(hx:zb4 CX X E)(ha:QA X (e::es) t)
 (hst:starEach (e::es) X.env=(false,eval e X.env)::starEach es X.env:=by rfl) (hpl:(backTo pos (starEach es X.env)).any (·.1)=false:=by rfl)
 (ht:eval (.Call (.Attribute o m apos) (e::es) [] pos) X.env=(do
   let ov ←eval o X.env
   standAt apos.atName
   let(f,first) ←holding [ov] (getMethod ov m pl)
   callWith pos f first (backTo pos (starEach (e::es) X.env)) (backToKw pos (keywordEach [] X.env))):=by rfl):
 QE X (.Call (.Attribute o m apos) (e::es) [] pos) (zjH C m sp dvs E ta t):=⟨zm6 he.o c hm F hr hb hd hx ha.o hst hpl ht⟩
theorem zcE{pl:Sem Bool}(he:QE X o ta)(c:Cls X.K C)(hm:Meth X.K C m fa)(F:FnOk X.prog X.w X.K X.mg X.base CX k fa fd ps sp)(hr:Room k X.A)(hb:Binds X.K fd ps ds)(hd:Vals dvs ds)(hx:zb4 CX X E)
 (ht:eval (.Call (.Attribute o m apos) [] [] pos) X.env=(do
   let ov ←eval o X.env
   standAt apos.atName
   let(f,first) ←holding [ov] (getMethod ov m pl)
   callWith pos f first (backTo pos (starEach [] X.env)) (backToKw pos (keywordEach [] X.env))):=by rfl):
 QE X (.Call (.Attribute o m apos) [] [] pos) (zjH C m sp dvs E ta zk6):=⟨zl1 he.o c hm F hr hb hd hx ht⟩
theorem zoC{x:Str}{p:Pos}(M:Mk X.K C fa)(F:FnOk X.prog X.w X.K X.mg X.base CX k fa fd ps sp)(hr:Room (k+1) X.A)(hm:X.mg x=some (.ref C))(hb:Binds X.K fd ps ds)(hd:Vals dvs ds)(hx:zb4 CX X E)
 (ha:QA X (e::es) t) (hg:Gl X x:=by rfl) (hdb:(x==("__debug__":Str))=false:=by decide) (he:starEach (e::es) X.env=(false,eval e X.env)::starEach es X.env:=by rfl) (hpl:(backTo pos (starEach es X.env)).any (·.1)=false:=by rfl):
 QE X (.Call (.Name x p) (e::es) [] pos) (zok C sp dvs E t):=⟨zm8 M F hr hg hm hb hd hx ha.o hdb he hpl⟩
theorem zeQ{g:Expr}{td ty tx:TE}{cpos:Pos}(hu:X.A.units+1<cLine)(ho:QE X o td)(he:QE X e ty)(hf:QE X g tx)(hb:attributeBase o "get" X.env (eval o X.env)=eval o X.env:=by rfl)
 (hw:((backTo cpos (starEach [e,g] X.env)).all (λx=>!x.1)&&(backToKw cpos (keywordEach [] X.env)).all (λx=>x.1.isSome)
 &&decide (([e,g]:List Expr).length+([]:List Keyword).length+(if([]:List Keyword).isEmpty then 0 else 1)<30))=true:=by rfl) (hl:(apos.endLine==cpos.line)=true:=by rfl) (ht:backTo cpos (starEach [e,g] X.env)=[(false,eval e X.env),(false,eval g X.env)]:=by rfl):
 QE X (.Call (.Attribute o "get" apos) [e,g] [] cpos) (zmj td ty tx):=⟨zmi hu ho.o he.o hf.o ⟨hb,hw,hl,ht⟩⟩
theorem zjL:OpR X (binaryOp .Mult) (rI (λi j=>Builtin.Int.intBits i<=2^20/\Builtin.Int.intBits j<=2^20) λi j=> .int (i*j)):=opI λ_ _ _ _ _ _ _ hc q=>mul_int q (.of_bits hc.1 hc.2)
end
end L2
namespace RW
open PySem PySem.Spec PyProof.Rows L2
inductive TrC(K:PySem.W.Frag)(H:Hp):V->PyData->Prop
 |non:TrC K H .non .none
 |bl (b:Bool):TrC K H (.bl b) (.bool b)
 |int (i:Int):TrC K H (.int i) (.int i)
 |str (x:Str) (h:PyData.strOk x=true):TrC K H (.str x) (.str x)
 |tup {p:Addr} {vs:List V} {ds:List PyData} (e:SqT K H p vs) (hl:vs.length=ds.length) (h:∀(i:Nat) (v:V) (d:PyData),vs[i]?=some v->ds[i]?=some d->TrC K H v d):TrC K H (.ref p) (.tuple ds)
theorem TrC.reads{X:Cx}{pins:List (Addr×Obj)}{σ:L2.St}{H:Hp}{s:Shared}(I:Inv X pins σ H s){x:V}{d:PyData}(t:TrC X.K H x d):∀v,RelV x v->∃as,Reads s.heap v d as:=by
 induction t with
 |non=>intro v r;cases r;exact⟨_, .none⟩
 |bl b=>intro v r;cases r;exact⟨_, .bool b⟩
 |int i=>intro v r;obtain⟨t,rfl⟩:=r;exact⟨_, .int i t⟩
 |str x h=>intro v r;obtain⟨t,rfl⟩:=r;exact⟨_, .str x t⟩
 |tup e hl h ih=>
  intro v r
  cases r
  obtain⟨its,rv,⟨o,ho,hc,n,hd⟩,_⟩:=I.tuple e
  obtain⟨bs,hb⟩:=za8 (h:=s.heap) rv hl ih
  exact⟨_, .tuple ho hc hd (by simpa using hb)⟩
theorem TrC.can{K:PySem.W.Frag}{H:Hp}{x:V}{d:PyData}(t:TrC K H x d):d.canLay0=true:=by
 induction t with
 |non=>rfl
 |bl b=>rfl
 |int i=>rfl
 |str x h=>simp only[PyData.canLay0];exact h
 |tup e hl h ih=>rw[PyData.canLay0];exact zb0 hl ih
section
variable{X:Cx}
theorem op_eqC(hu:X.A.units+64<cLine):OpR X (compareOp .Eq) (λx y H Q=>∃d e,TrC X.K H x d/\TrC X.K H y e/\min d.depth e.depth<=60/\Q (.bl (d.eqv e)) H):=by
 intro pins s σ H x y v u Q I rx ry h
 obtain⟨d,e,t1,t2,hd,q⟩:=h
 obtain⟨as,r1⟩:=t1.reads I v rx
 obtain⟨bs,r2⟩:=t2.reads I u ry
 exact SeqAt.compareEq_reads r1 r2 t1.can t2.can (by omega) ⟨.bl _,H,I,rfl,q⟩
theorem zlL(hu:X.A.units+64<cLine):OpR X (compareOp .NotEq) (λx y H Q=>∃d e,TrC X.K H x d/\TrC X.K H y e/\min d.depth e.depth<=60/\Q (.bl (!d.eqv e)) H):=by
 intro pins s σ H x y v u Q I rx ry h
 obtain⟨d,e,t1,t2,hd,q⟩:=h
 obtain⟨as,r1⟩:=t1.reads I v rx
 obtain⟨bs,r2⟩:=t2.reads I u ry
 exact SeqAt.compareNe_reads r1 r2 t1.can t2.can (by omega) ⟨.bl _,H,I,rfl,q⟩
end
end RW
namespace L2
open PySem PySem.Spec PyProof.Rows
section
variable{X:Cx}{kx vx tg iter:Expr}{ifs:List Expr}{scope osc:Scope}{pos:Pos}{N':List Str}{src:List (Option Nat)}{wi:TI}{g:TG}{tc:TT}{tk tv:TE}
end
end L2
namespace HT
open PySem PySem.Spec PyProof.Rows L2
section
variable{prog:Program}{w:World}{A:Around}{E:Value->Shared->Prop}{s:Shared}{it d:Addr}{i ep:Nat}{ps:List (Value×Value)}
end
end HT
namespace L2
open PySem PySem.Spec PyProof.Rows
end L2
namespace HT
open PySem PySem.Spec PyProof.Rows L2
section
variable{prog:Program}{w:World}{A:Around}{E:Value->Shared->Prop}{s:Shared}
end
section
variable{prog:Program}{w:World}{A:Around}{E:Value->Shared->Prop}{s:Shared}{K:Type}[DecidableEq K]{knd:KeyKind prog w K}
end
end HT
namespace L2
open PySem PySem.Spec PyProof.Rows
section
variable{X:Cx}
inductive TwosAt(H:Hp):List Addr->List Str->List V->Prop
 |nil:TwosAt H [] [] []
 |cons {t:Addr} {x:Str} {y:V} {ts:List Addr} {hs:List Str} {ys:List V}:H t=some (.tup [.str x,y])->TwosAt H ts hs ys->TwosAt H (t::ts) (x::hs) (y::ys)
theorem zkH{ts:List Addr}:∀{its:List Value},Vals (ts.map V.ref) its->its=ts.map Value.ref:=by
 induction ts with
 |nil=>intro its r;cases r;rfl
 |cons t ts ih=>intro its r;cases r with
  |cons a b=>rw[ih b];cases a;rfl
end
end L2
namespace L2
open PySem PySem.Spec PySem.W PyProof.Rows
def AtG{α:Type}(Oa:Hp->Addr->α->Prop)(H:Hp)(vs:List V)(ps:List α):Prop:=vs.length=ps.length/\∀(i:Nat) (v:V) (p:α),vs[i]?=some v->ps[i]?=some p->∃b,v= .ref b/\Oa H b p
section
variable{X:Cx}{K:PySem.W.Frag}
end
end L2
namespace L2
open PySem PySem.W PySem.Spec PyProof.Rows RW
noncomputable abbrev Ky:=Int×Int×List Str
theorem zlw{a b:Ky}(h:a≠b)(e:ltK a b=false):ltK b a=true:=by
 obtain⟨i,n,ps⟩:=a
 obtain⟨j,m,qs⟩:=b
 unfold ltK at *
 simp only at *
 by_cases h1:i=j
 ·by_cases h2:n=m
  ·subst h1 h2
   rw[if_pos rfl,if_pos rfl] at e⊢
   exact zie (λz=>h (by rw[z])) e
  ·rw[if_pos h1,if_neg h2] at e
   rw[if_pos h1.symm,if_neg (Ne.symm h2)]
   simp at e⊢;omega
 ·rw[if_neg h1] at e
  rw[if_neg (Ne.symm h1)]
  simp at e⊢;omega
noncomputable def zfU(k:Ky):PyData:= .tuple [.int k.1, .int k.2.1, .tuple (zu k.2.2)]
def KeyO(H:Hp)(b:Addr)(k:Ky):Prop:=∃p,H b=some (.tup [.int k.1, .int k.2.1, .ref p])/\H p=some (.tup (k.2.2.map V.str))/\∀y∈k.2.2,PyData.strOk y=true
theorem KeyO.tr{H:Hp}{b:Addr}{k:Ky}(x:KeyO H b k):Tr H (.ref b) (zfU k):=by
 obtain⟨p,e,ep,ok⟩:=x
 refine .tup e rfl λi v d e1 e2=>?_
 match i,e1,e2 with
 |0,e1,e2=>cases e1;cases e2;exact .int _
 |1,e1,e2=>cases e1;cases e2;exact .int _
 |2,e1,e2=>cases e1;cases e2;exact zfc ep ok
structure RawK(h:Heap)(b:Addr)(k:Ky):Prop where
 at_:∃p ti tn jts,IsTup h b #[.int k.1 ti, .int k.2.1 tn, .ref p]/\Vals (k.2.2.map V.str) jts/\IsTup h p jts.toArray/\(∃as,Reads h (.ref p) (.tuple (zu k.2.2)) as)/\(PyData.tuple (zu k.2.2)).canLay0=true
 rd:∃as,Reads h (.ref b) (zfU k) as
 can:(zfU k).canLay0=true
theorem zdz{h h':Heap}{a:Addr}{xs:Array Value}(x:IsTup h a xs)(k:∀b o,h.get? b=some o->h'.get? b=some o):IsTup h' a xs:=let⟨o,g,r⟩:=x;⟨o,k _ _ g,r⟩
theorem KeyO.raw{X:Cx}{pins:List (Addr×Obj)}{σ:L2.St}{H:Hp}{s:Shared}{h':Heap}(I:Inv X pins σ H s){b:Addr}{k:Ky}(x:KeyO H b k)(kp:∀b o,s.heap.get? b=some o->h'.get? b=some o):RawK h' b k:=by
 have t:=x.tr
 obtain⟨p,e,ep,ok⟩:=x
 obtain⟨its,r1,t1,_⟩:=I.tuple (SqT.of e)
 obtain⟨jts,s1,u1,_⟩:=I.tuple (SqT.of ep)
 obtain⟨_,_,_,rfl,x1,x2,x3⟩:=zo3 r1
 obtain⟨ti,rfl⟩:=x1
 obtain⟨tn,rfl⟩:=x2
 cases x3
 obtain⟨as,rd1⟩:=(zfc ep ok).reads I (.ref p) rfl
 obtain⟨bs,rd2⟩:=t.reads I (.ref b) rfl
 exact⟨⟨p,ti,tn,jts,zdz t1 kp,s1,zdz u1 kp,⟨as,Reads.keeps kp rd1⟩,(zfc ep ok).can⟩,⟨bs,Reads.keeps kp rd2⟩,t.can⟩
section
variable{prog:Program}{w:World}{A:Around}{E:Value->Shared->Prop}{s:Shared}
theorem znl{a b:Addr}{k1 k2:Ky}{Q:Value->Shared->Prop}(hu:A.units+63<cLine)(x:RawK s.heap a k1)(y:RawK s.heap b k2)(q:Q (.bool (ltK k1 k2)) s):wpAny (model prog w) A (richCompare .Lt (.ref a) (.ref b)) Q E s:=by
 obtain⟨i1,n1,ps⟩:=k1
 obtain⟨i2,n2,qs⟩:=k2
 obtain⟨p,ti1,tn1,jts,t1,s1,u1,⟨as,rd1⟩,c1⟩:=x.at_
 obtain⟨p2,ti2,tn2,jts2,t2,s2,u2,⟨bs,rd2⟩,c2⟩:=y.at_
 obtain⟨⟨c1',d1,e1,f1⟩,ho,hc,m1,hd⟩:=id t1
 obtain⟨⟨c2',d2,e2,f2⟩,ho2,hc2,m2,hd2⟩:=id t2
 simp only at hc hd hc2 hd2
 subst hc hd hc2 hd2
 have mk:∀(k:Nat) (res:Bool),k<=3->ltK (i1,n1,ps) (i2,n2,qs)=res->
  (∀prog w i x y,i<k->([.int i1 ti1, .int n1 tn1, .ref p]:List Value)[i]?=some x->([.int i2 ti2, .int n2 tn2, .ref p2]:List Value)[i]?=some y->∀(E:Value->Shared->Prop) (Q:Bool->Shared->Prop),Q true s->wpAny (model prog w) A.in1 (eqBool x y) Q E s)->
  ((k=3/\res=false)\/∃x y,([.int i1 ti1, .int n1 tn1, .ref p]:List Value)[k]?=some x/\([.int i2 ti2, .int n2 tn2, .ref p2]:List Value)[k]?=some y/\(∀prog w (E:Value->Shared->Prop) (Q:Bool->Shared->Prop),Q false s->wpAny (model prog w) A.in1 (eqBool x y) Q E s)/\∀prog w (E:Value->Shared->Prop) (Q:Value->Shared->Prop),Q (.bool res) s->wpAny (model prog w) A.in1 (richCompare .Lt x y) Q E s)->
  wpAny (model prog w) A (richCompare .Lt (.ref a) (.ref b)) Q E s:=by
  intro k res hk3 er he hk
  refine richCompare_meets_room (op:= .Lt) ⟨_,ho,rfl⟩ ⟨_,ho2,rfl⟩ PySem.F.slot_tuple_lt PySem.F.entry_tuple_lt (PySem.F.args_tuple_lt_2 _ _) (zcF a b m1 m2 d1 d2 f1 f2 [.int i1 ti1, .int n1 tn1, .ref p] [.int i2 ti2, .int n2 tn2, .ref p2] k res) ⟨ho,ho2,he,hk3,hk3,?_,⟨(λx=>nomatch x),by rw[er] at q;exact q⟩⟩ (by omega)
  rcases hk with⟨h1,h2⟩|h
  ·exact .inl ⟨h1,by rw[h2];rfl⟩
  ·exact .inr h
 have intE:∀{i j:Int} {t t':Tok} {b:Bool} (e:(i==j)=b) (prog:Program) (w:World) (E:Value->Shared->Prop) (Q:Bool->Shared->Prop),Q b s->wpAny (model prog w) A.in1 (eqBool (.int i t) (.int j t')) Q E s:=λe prog w E Q hq=>wpAny_eqBool_int (by rw[e];exact hq)
 have tupE:∀{b:Bool} (e:decide (ps=qs)=b) (prog:Program) (w:World) (E:Value->Shared->Prop) (Q:Bool->Shared->Prop),Q b s->wpAny (model prog w) A.in1 (eqBool (.ref p) (.ref p2)) Q E s:=λ{b} e prog w E Q hq=>SeqAt.eqAt_reads _ _ A.in1 s _ _ _ _ rd1 rd2 c1 c2 (by
  have:=Nat.le_trans (Nat.min_le_left (PyData.tuple (zu ps)).depth (PyData.tuple (zu qs)).depth) zeq
  show A.units+1+_<cLine
  simp only at *
  omega) prog w E Q (by rw[zdk,e];exact hq)
 by_cases hi:i1=i2
 ·by_cases hn:n1=n2
  ·by_cases hq:ps=qs
   ·refine mk 3 false (Nat.le_refl _) (by unfold ltK;rw[if_pos hi,if_pos hn];subst hq;exact zgy _) (λprog w i x y h3 hx hy E Q hQ=>?_) (.inl ⟨rfl,rfl⟩)
    match i,h3,hx,hy with
    |0,_,hx,hy=>cases hx;cases hy;exact intE (by simp[hi]) prog w E Q hQ
    |1,_,hx,hy=>cases hx;cases hy;exact intE (by simp[hn]) prog w E Q hQ
    |2,_,hx,hy=>cases hx;cases hy;exact tupE (decide_eq_true hq) prog w E Q hQ
   ·refine mk 2 (ltL ps qs) (by omega) (by unfold ltK;rw[if_pos hi,if_pos hn]) (λprog w i x y h3 hx hy E Q hQ=>?_) (.inr ⟨_,_,rfl,rfl,tupE (decide_eq_false hq),λprog w E Q hQ=>zmb s1 s2 u1 u2 (by show A.units+1<cLine;omega) hQ⟩)
    match i,h3,hx,hy with
    |0,_,hx,hy=>cases hx;cases hy;exact intE (by simp[hi]) prog w E Q hQ
    |1,_,hx,hy=>cases hx;cases hy;exact intE (by simp[hn]) prog w E Q hQ
  ·refine mk 1 (decide (n1<n2)) (by omega) (by unfold ltK;rw[if_pos hi,if_neg hn]) (λprog w i x y h3 hx hy E Q hQ=>?_) (.inr ⟨_,_,rfl,rfl,intE (by simp[hn]),λprog w E Q hQ=>(PyProof.Rows.lt_int hQ:wpAny (model prog w) A.in1 (compareOp .Lt (.int n1 tn1) (.int n2 tn2)) Q E s)⟩)
   match i,h3,hx,hy with
   |0,_,hx,hy=>cases hx;cases hy;exact intE (by simp[hi]) prog w E Q hQ
 ·exact mk 0 (decide (i1<i2)) (by omega) (by unfold ltK;rw[if_neg hi]) (λprog w i x y h3 hx hy E Q hQ=>absurd h3 (Nat.not_lt_zero _)) (.inr ⟨_,_,rfl,rfl,intE (by simp[hi]),λprog w E Q hQ=>(PyProof.Rows.lt_int hQ:wpAny (model prog w) A.in1 (compareOp .Lt (.int i1 ti1) (.int i2 ti2)) Q E s)⟩)
theorem zlC{k1 k2:Ky}:(zfU k1).eqv (zfU k2)=decide (k1=k2):=by
 obtain⟨i1,n1,ps⟩:=k1
 obtain⟨i2,n2,qs⟩:=k2
 unfold zfU
 have e:=zdk (xs:=ps) (ys:=qs)
 simp only[PyData.eqv,PyData.eqvAll,Bool.and_true] at e⊢
 rw[e]
 rw[Bool.eq_iff_iff]
 simp[Prod.mk.injEq]
theorem zi3{k:Ky}:(zfU k).depth<=62:=by
 have:=zeq (xs:=k.2.2)
 unfold zfU
 simp only[PyData.depth,PyData.depthAll] at *
 omega
theorem zmH{a b:Addr}{k1 k2:Ky}{Q:Bool->Shared->Prop}(hu:A.units+62<cLine)(x:RawK s.heap a k1)(y:RawK s.heap b k2)(q:Q (decide (k1=k2)) s):wpAny (model prog w) A (eqBool (.ref a) (.ref b)) Q E s:=by
 obtain⟨as,rd1⟩:=x.rd
 obtain⟨bs,rd2⟩:=y.rd
 exact SeqAt.eqAt_reads _ _ A s _ _ _ _ rd1 rd2 x.can y.can (by
  have:=Nat.le_trans (Nat.min_le_left (zfU k1).depth (zfU k2).depth) zi3
  omega) prog w E Q (by rw[zlC];exact q)
end
section
variable{X:Cx}{K:PySem.W.Frag}
end
section
variable{X:Cx}{K:PySem.W.Frag}
end
end L2
namespace L2
open PySem PySem.Spec PyProof.Rows
section
variable{X:Cx}
end
end L2
namespace RW
open PySem PySem.Spec PyProof.Rows L2
section
variable{α:Type}[DecidableEq α]{mm:α->α->α×α}
structure MM(mm:α->α->α×α):Prop where
 two:∀a b,mm a b=(a,b)\/mm a b=(b,a)
 sym:∀a b,mm a b=mm b a
noncomputable def ed(mm:α->α->α×α):List α->List (α×α)
 |a::b::r=>mm a b::ed mm (b::r)
 |_=> []
end
noncomputable def mmS(x y:Str):Str×Str:=(if ltS y x=true then y else x,if ltS x y=true then y else x)
structure SW(g:Str)(ps:List (Str×Str))(w:List Str):Prop where
 nd:w.Nodup
 last:w.getLast?=some g
 ties:∀p∈ed mmS w,p∈ps
structure WOk(hs w:List Str):Prop where
 ne:1<=w.length
 nd:w.Nodup
 mem:∀y∈w,y∈hs
structure Bf(g:Str)(hs:List Str)(ps:List (Str×Str))(ws:List (List Str))(n:Nat):Prop where
 nd:ws.Nodup
 sw:∀w∈ws,SW g ps w
 root:[g]∈ws
 src:∀y r,y::r∈ws->r≠ []->r∈ws.take n
 cl:∀y x r,x::r∈ws.take n->y∈hs->mmS y x∈ps->y∉x::r->y::x::r∈ws
structure Df(g:Str)(ps:List (Str×Str))(M:List Str->Option (List Str))(L F:List (List Str)):Prop where
 nd:L.Nodup
 fnd:F.Nodup
 fsub:∀w∈F,w∈L
 sw:∀w∈L,SW g ps w/\M w≠none
 root:[g]∈L
 src:∀y r,y::r∈L->r≠ []->r∈L/\r∉F
 cl:∀y x r,x::r∈L->x::r∉F->mmS y x∈ps->y∉x::r->M (y::x::r)≠none->y::x::r∈L
structure DfW(g:Str)(ps:List (Str×Str))(M:List Str->Option (List Str))(x:Str)(r ds:List Str)(L F:List (List Str)):Prop where
 nd:L.Nodup
 fnd:F.Nodup
 fsub:∀w∈F,w∈L
 sw:∀w∈L,SW g ps w/\M w≠none
 root:[g]∈L
 src:∀y q,y::q∈L->q≠ []->q∈L/\q∉F
 me:x::r∈L/\x::r∉F
 kids:∀y,y::x::r∈L->y∈ds
 cl:∀y a q,a::q∈L->a::q∉F->a::q≠x::r->mmS y a∈ps->y∉a::q->M (y::a::q)≠none->y::a::q∈L
 clw:∀y∈ds,y∉x::r->M (y::x::r)≠none->y::x::r∈L
section
variable{g x:Str}{ps:List (Str×Str)}{M:List Str->Option (List Str)}{r ds:List Str}{L F:List (List Str)}
end
end RW
namespace L2
open PySem PySem.Spec PyProof.Rows
section
variable{X:Cx}{pos:Pos}{pins:List (Addr×Obj)}{σ:St}{H:Hp}{s:Shared}
theorem Inv.thaw{d:Addr}{u:HO}{o:Obj}(I:Inv X pins σ H s)(e:H d=some (.frz o u))(h0:∀o' u',X.H₀ d≠some (.frz o' u')):Inv X pins σ (upd H d u) s where
 ok:=I.ok
 os:=I.os
 bare:=I.bare
 base:={
  keep:=I.base.keep
  slot:=I.base.slot
  free:=λb o h1 h2 h3=>by
   have:=I.base.free b o h1 h2 h3
   rw[ze λz=>by rw[z,e] at this;cases this];exact this
  there:=I.base.there
  tups:=λb xs h=>by
   have:=I.base.tups b xs h
   rw[ze λz=>by rw[z,e] at this;cases this];exact this
  frzs:=λb o u h=>by
   have:=I.base.frzs b o u h
   have hb:b≠d:=λz=>h0 o u (by rw[←z];exact h)
   rw[ze hb];exact this
  tbls:=λb ps h=>by
   obtain⟨more,this⟩:=I.base.tbls b ps h
   exact⟨more,by rw[ze λz=>by rw[z,e] at this;cases this];exact this⟩}
 loc:=I.loc
 cell:=I.cell
 free:=by
  have:=I.free
  rw[ze λz=>by rw[z,e] at this;cases this];exact this
 freeC:=λx c h=>by
  have:=I.freeC x c h
  rw[ze λz=>by rw[z,e] at this;cases this];exact this
 pin:=λp hp=>by
  obtain⟨h1,h2,h3⟩:=I.pin p hp
  exact⟨h1,by rw[ze λz=>by rw[z,e] at h2;cases h2];exact h2,h3⟩
 hok:=λa o' h=>by
  have st:∀{v:HO},ObjOk X.prog X.w H s.heap a v->ObjOk X.prog X.w (upd H d u) s.heap a v:=λx=>x.stay (λ_ _ _ q=>q) (λb q=>by rw[ze λz=>by rw[z,e] at q;cases q];exact q) (λb xs q=>by rw[ze λz=>by rw[z,e] at q;cases q];exact q)
  by_cases z:a=d
  ·subst z
   rw[zb] at h
   cases h
   exact st (I.hok a _ e).2
  ·rw[ze z] at h
   exact st (I.hok a _ h)
 len:=I.len
theorem zon{e:Expr}{te:TE}(h:QE X e te):QE X e (λσ H Q=>te σ H λv H'=>∃d o u,H' d=some (.frz o u)/\(∀o' u',X.H₀ d≠some (.frz o' u'))/\Q v (upd H' d u)):=⟨by
 intro pins s σ H Q I q
 refine thn (h.o pins s σ H _ I q) λv s1 ⟨x,H1,I1,r1,q1⟩=>?_
 obtain⟨d,o,u,e,h0,q1⟩:=q1
 exact⟨x,_,I1.thaw e h0,r1,q1⟩⟩
variable{K:PySem.W.Frag}
end
end L2
namespace RW
open PySem PySem.Spec PyProof.Rows L2
section
variable{X:Cx}
inductive ChAt(H:Hp):List (Key×V)->List (Str×Option (List Str))->Prop
 |nil:ChAt H [] []
 |cons {x:Str} {v:V} {o:Option (List Str)} {kvs:List (Key×V)} {cs:List (Str×Option (List Str))}:zpU H v o->ChAt H kvs cs->ChAt H ((Sum.inr x,v)::kvs) ((x,o)::cs)
end
end RW
namespace HT
open PySem PySem.Spec PyProof.Rows L2
section
variable{prog:Program}{w:World}{A:Around}{E:Value->Shared->Prop}{s:Shared}
end
section
variable{prog:Program}{w:World}{A:Around}{E:Value->Shared->Prop}{s:Shared}
end
end HT
namespace L2
open PySem PySem.Spec PyProof.Rows
section
variable{X:Cx}{K:PySem.W.Frag}
end
end L2
namespace HT
open PySem PySem.Spec PyProof.Rows L2
structure Zp3(z TI TO i1 i2 i3:Addr):Prop where
 TIz:TI≠z
 TOz:TO≠z
 i1z:i1≠z
 i2z:i2≠z
 i3z:i3≠z
 TITO:TI≠TO
 TIi1:TI≠i1
 TIi2:TI≠i2
 TIi3:TI≠i3
 TOi1:TO≠i1
 TOi2:TO≠i2
 TOi3:TO≠i3
 i12:i1≠i2
 i13:i1≠i3
 i23:i2≠i3
section
variable{prog:Program}{w:World}{A:Around}{E:Value->Shared->Prop}{s:Shared}
end
section
variable{prog:Program}{w:World}{A:Around}{E:Value->Shared->Prop}{s:Shared}
end
end HT
namespace L2
open PySem PySem.Spec PyProof.Rows
section
variable{X:Cx}{K:PySem.W.Frag}
end
section
variable{X:Cx}{tg:Expr}
end
end L2
namespace RW
open PySem PySem.Spec PyProof.Rows L2
structure Pp where
 one:Str
 to:Str
 nr:Int
 way:Option (List Str)
 marks:List Str
structure PpOk(hs:List Str)(ps:List (Str×Str))(p:Pp):Prop where
 one:p.one∈hs
 to:p.to∈hs
 tied:p.to∈zey ps p.one
 nr:1<=p.nr
 mnm:∀x∈p.marks,zi x=true
 ml:p.marks.length<=90
 non:p.way=none->p.marks=[]
 way:∀w,p.way=some w->1<=w.length/\w.length<=10/\∀x∈w,zi x=true
inductive Ch(hs:List Str)(lks hds:List D):Str->List Str->List Pp->Prop
 |one {to g:Str} {nr:Int} {m:List Str} (h1:1<=nr) (h2:zR [g] (some to) (zA hs hds g) []=some m):Ch hs lks hds to [g] [⟨g,to,nr,some [g],m⟩]
 |more {to y x:Str} {ws:List Str} {nr:Int} {m:List Str} {q:Pp} {P:List Pp} (h:Ch hs lks hds y (x::ws) (q::P)) (h0:zcC (zP (y::x::ws) q.marks (zA hs lks y))=false) (h1:1<=nr)
   (h2:zR (y::x::ws) (some to) (zA hs hds y) q.marks=some m):Ch hs lks hds to (y::x::ws) (⟨y,to,nr,some (y::x::ws),m⟩::q::P)
section
variable{hs:List Str}{lks hds:List D}{to:Str}{w:List Str}{P:List Pp}
end
end RW
namespace HT
open PySem PySem.Spec PyProof.Rows L2
section
variable{prog:Program}{w:World}{A:Around}{R:Result->Shared->Prop}{I:Addr}{fp wr:List Addr}{n:Nat}{P:Nat->Value->Prop}{St:Nat->Heap->Prop}
end
section
variable{prog:Program}{w:World}{A:Around}{E:Value->Shared->Prop}{s:Shared}
end
end HT
namespace L2
open PySem PySem.W PySem.Spec PyProof.Rows PyProof.V
section
variable{X:Cx}
end
end L2
namespace RW
open PySem PySem.Spec PyProof.Rows L2
theorem zk0{a b:Str}(h1:leS a b=true)(h2:leS b a=true):a=b:=by
 unfold leS at *
 rw[Bool.not_eq_true'] at *
 by_cases e:a=b
 ·exact e
 ·rw[zcL e h2] at h1;cases h1
theorem zgd:∀{ts:List Str},sortedS ts=true->ts.Pairwise (λa b=>leS a b=true)
 |[],_=> .nil
 |[a],_=>List.pairwise_singleton _ _
 |a::b::ts,h=>by
  have h':(!ltCps b.cps.toList a.cps.toList&&risingS b ts)=true:=h
  rw[Bool.and_eq_true] at h'
  have hr:sortedS (b::ts)=true:=h'.2
  have hab:leS a b=true:=by
   have h1:ltS b a=false:=by
    have:=h'.1
    rw[ltCps_eq] at this
    simpa using this
   unfold leS
   rw[h1];rfl
  have ih:=zgd hr
  refine List.pairwise_cons.mpr ⟨λz hz=>?_,ih⟩
  rcases List.mem_cons.mp hz with rfl|hz
  ·exact hab
  ·exact zlT a b z hab ((List.pairwise_cons.mp ih).1 z hz)
theorem zna{ts l:List Str}(hp:ts.Perm l)(hs:sortedS ts=true):ts=srt l:=
 (hp.trans (zeZ l).symm).eq_of_pairwise (λa b _ _ h1 h2=>zk0 h1 h2) (zgd hs) (List.pairwise_mergeSort zlT zmY l)
noncomputable def zf6:Sp:=λvs H Q _=>∃(pm:Addr) (v:V) (t:List Str) (w m:Str),vs=[.ref pm,v]/\H pm=some (.tup (t.map V.str))/\Rep H v (.tup [.str w, .str m])/\(∀x∈t,zi x=true)/\zi m=true/\t.length<=60/\∀(p:Addr) (H':Hp),H' p=some (.tup ((ze8 t w m).map V.str))->Same H H'->Q (.ref p) H'
def zgE(rs:List D):Prop:=rs.length<=90/\∀r∈rs,∃cs x,r= .tup [.tup cs,x]/\(∀c∈cs,zJ c=true)/\(x= .tup [.str "keep"]\/∃w m,x= .tup [.str w, .str m]/\(w="put"\/w="strike")/\zi m=true)
theorem zfi{d:D}(h:zbY d=true):∃rs,d= .tup rs/\zgE rs:=by
 cases d with
 |tup rs=>
  have h:(decide (rs.length<=90)&&rs.all zbW)=true:=h
  rw[Bool.and_eq_true] at h
  refine⟨rs,rfl,of_decide_eq_true h.1,λr hr=>?_⟩
  obtain⟨cs,x,rfl,h4,hc,hx⟩:=zjN (List.all_eq_true.mp h.2 r hr)
  exact⟨cs,x,rfl,hc,zli hx⟩
 |_=>cases h
structure Mst(rs:List D)(Pr:Nat->List Str->Prop):Prop where
 skip:∀i t,Pr i t->Pr (i+1) t
 next:∀i t w m cs,Pr i t->rs[i]?=some (.tup [.tup cs, .tup [.str w, .str m]])->Pr (i+1) (ze8 t w m)
 ok:∀i t,i<=rs.length->Pr i t->(∀y∈t,zi y=true)/\t.length<=60
noncomputable def zgl:Sp:=λvs H Q _=>∃(v:V) (pw pm:Addr) (vt:V) (x:Str) (ws ms:List Str) (to:Option Str) (g:Str) (hs:List Str) (ps:List (Str×Str)) (lks hds:List D) (j:Nat) (rs:List D) (Pr:Nat->List Str->Prop),vs=[v, .ref pw, .ref pm,vt]/\Rep H v (zar g hs ps lks hds)/\TownOk g hs ps lks hds/\hs[j]?=some x/\hds[j]?=some (.tup rs)/\zgE rs/\Mst rs Pr/\Pr 0 ms/\H pw=some (.tup ((x::ws).map V.str))/\H pm=some (.tup (ms.map V.str))/\TO vt to/\(∀y∈x::ws,zi y=true)/\ws.length<=90/\∀(u:V) (H':Hp),zpU H' u (zR (x::ws) to rs ms)->Same H H'->Q u H'
theorem zlk{t:List Str}{w m:Str}:(ze8 t w m).length<=t.length+1:=by
 unfold ze8
 rw[(zeZ _).length_eq]
 unfold zbB
 rw[List.length_append]
 have:=List.length_filter_le (λx=>!decide (x=m)) t
 split<;>simp<;>omega
theorem zh5{t:List Str}{w m y:Str}(h:y∈ze8 t w m):y∈t\/y=m:=by
 unfold ze8 at h
 rw[(zeZ _).mem_iff] at h
 unfold zbB at h
 rcases List.mem_append.mp h with h|h
 ·exact .inl (List.mem_filter.mp h).1
 ·split at h
  ·exact .inr (List.mem_singleton.mp h)
  ·cases h
def Mn(c i:Nat)(t:List Str):Prop:=(∀y∈t,zi y=true)/\t.length<=c+i
theorem zop{rs:List D}{c:Nat}(h:zgE rs)(hc:c+rs.length<=60):Mst rs (Mn c) where
 skip:=λi t h=>⟨h.1,by have:=h.2;omega⟩
 next:=λi t w m cs M e=>by
  obtain⟨cs',x,e1,_,hx⟩:=h.2 _ (List.mem_of_getElem? e)
  cases e1
  rcases hx with z|⟨w',m',e2,_,hm⟩
  ·cases z
  ·cases e2
   refine⟨λy hy=>?_,by have:=zlk (t:=t) (w:=w) (m:=m);have:=M.2;omega⟩
   rcases zh5 hy with h|h
   ·exact M.1 y h
   ·rw[h];exact hm
 ok:=λi t hi M=>⟨M.1,by have:=M.2;omega⟩
theorem zcB{ws:List Str}{to:Option Str}:∀{rs:List D} {ms t:List Str},(∀r∈rs,∃cs x,r= .tup [.tup cs,x]/\(∀c∈cs,zJ c=true)/\(x= .tup [.str "keep"]\/∃w m,x= .tup [.str w, .str m]/\(w="put"\/w="strike")/\zi m=true))->(∀y∈ms,zi y=true)->zR ws to rs ms=some t->∀y∈t,zi y=true
 |[],ms,t,_,h,e=>by rw[zR] at e;cases e;exact h
 |r::rs,ms,t,hr,h,e=>by
  obtain⟨cs,x,rfl,_,hx⟩:=hr r List.mem_cons_self
  have hr':=λr h=>hr r (List.mem_cons_of_mem _ h)
  rw[zR] at e
  split at e
  ·rcases hx with rfl|⟨w,m,rfl,_,hm⟩
   ·cases e
   ·exact zcB hr' (λy hy=>(zh5 hy).elim (h y) λz=>by rw[z];exact hm) e
  ·exact zcB hr' h e
section
variable{g:Str}{hs:List Str}{ps:List (Str×Str)}{lks hds:List D}
end
theorem vr{α:Type}{A Q:α->Prop}{v:α}(h:A v)(q:Q v):∃v,A v/\Q v:=⟨v,h,q⟩
theorem ixT{K:PySem.W.Frag}{p:Addr}{xs:List V}{i:Int}{v:V}{H:Hp}{Q:V->Prop}(h:H p=some (.tup xs))(e:atI xs i=some v)(q:Q v):∃p' xs' i' v',V.ref p= .ref p'/\V.int i= .int i'/\SqT K H p' xs'/\atI xs' i'=some v'/\Q v':=⟨p,xs,i,v,rfl,rfl, .inl (.inl h),e,q⟩
theorem ixL{K:PySem.W.Frag}{p:Addr}{xs:List V}{i:Int}{v:V}{H:Hp}{Q:V->Prop}(h:H p=some (.lst xs))(e:atI xs i=some v)(q:Q v):∃p' xs' i' v',V.ref p= .ref p'/\V.int i= .int i'/\SqL K H p' xs'/\atI xs' i'=some v'/\Q v':=⟨p,xs,i,v,rfl,rfl,SqL.of h,e,q⟩
theorem zql{sa sb:TS}{N B C:L2.St->Hp->Prop}{R:VK}{σ:L2.St}{H:Hp}(k:∀n:L2.St->Hp->Prop,(∀σ' H',sb ⟨N,R,B,C⟩ σ' H'->n σ' H')->sa ⟨n,R,B,C⟩ σ H):zj4 sa sb ⟨N,R,B,C⟩ σ H:=k _ λ_ _ h=>h
section
variable{α β γ δ ε ζ η θ:Type}
theorem ex2{p:α->β->Prop}(a:α)(b:β)(h:p a b):∃a b,p a b:=⟨a,b,h⟩
theorem ex3{p:α->β->γ->Prop}(a:α)(b:β)(c:γ)(h:p a b c):∃a b c,p a b c:=⟨a,b,c,h⟩
theorem ex4{p:α->β->γ->δ->Prop}(a:α)(b:β)(c:γ)(d:δ)(h:p a b c d):∃a b c d,p a b c d:=⟨a,b,c,d,h⟩
theorem ex8{p:α->β->γ->δ->ε->ζ->η->θ->Prop}(a:α)(b:β)(c:γ)(d:δ)(e:ε)(f:ζ)(g:η)(i:θ)(h:p a b c d e f g i):∃a b c d e f g i,p a b c d e f g i:=⟨a,b,c,d,e,f,g,i,h⟩
end
end RW
namespace L2
open PySem PySem.Spec PyProof.Rows
theorem zkj{P:Program}{w:World}{K:PySem.W.Frag}{tg:Expr}(d it:Addr)(hne:d≠it)(o:Obj)(u:HO)(vs:List V)(kvs:List (Key×Value))(ep:Nat)
 (dat:∀h:Heap,h.get? d=some o->h.DictAt (zW P w) d kvs ep) (rel:∀(i:Nat) (v:V),vs[i]?=some v->∃q,kvs[i]?=some q/\RelV v q.2) (hl:vs.length=kvs.length):
 Turn P w K tg (Itd d o u vs) [it] it (λi h=>i<=kvs.length/\h.IsValIter it d i kvs.length ep) where
 mem:=by simp
 obj:=λi h st b hb=>by
  obtain⟨_,o,e,c,dd⟩:=st
  have:b=it:=by simpa using hb
  subst this
  exact⟨o,e,λv z=>by rw[dd] at z;cases z⟩
 keep:=λi h h' st k=>⟨st.1,st.2.at λo e=>k it (by simp) o e⟩
 item:=by
  intro X hP hw hK hc i pins s σ H E I hf st hg
  subst hP hw hK
  have hi:i<vs.length:=hg.1
  have hm:=dat s.heap ((show ObjOk X.prog X.w H s.heap d (.frz o u)from I.hok d _ hg.2)).1
  obtain⟨⟨k,u'⟩,hu,ru⟩:=rel i vs[i] (by simp[hi])
  obtain⟨f0,f1,f2,f3,f4,f5⟩:=hf it (by simp)
  refine wpAny_pyNext_values_item st.2 hm hu λh' st' sb=>?_
  have I1:Inv X pins σ H {s with heap:=h'}:=I.turned (t':=s.toks) (λb o hb e=>(sb.2 b hb).trans e) f0 f1 f3 f4 f5
  obtain⟨o2,e,c,dd⟩:=id st'
  exact⟨u',rfl,zhn (s:={s with heap:=h'}) e c dd (by decide) ⟨vs[i],H,I1,ru,⟨rfl,by simp[hi]⟩,⟨by omega,st'⟩,λb hb=>(hf b hb).1⟩⟩
 done:=by
   intro X hP hw hK hc i pins s σ H E I hf st hg
   subst hP hw hK
   have hi:vs.length<=i:=hg.1
   have hm:=dat s.heap ((show ObjOk X.prog X.w H s.heap d (.frz o u)from I.hok d _ hg.2)).1
   obtain⟨f0,f1,f2,f3,f4,f5⟩:=hf it (by simp)
   exact wpAny_pyNext_values_end (I.ok.hd hc) st.2 hm (List.getElem?_eq_none (by omega)) λh' eb=>⟨rfl,I.turned (t':=s.toks) (λb o hb e=>eb b o hb e) f0 f1 f3 f4 f5⟩
 self:=λA i s Q E st h=>wpAny_pyIter_valiter st.2 h
noncomputable def zpz(tl:TE):TI:=λσ H R=>tl σ H λx H1=>∃d kvs,x= .ref d/\H1 d=some (.dK kvs)/\∀(o:Obj),(kvs.map (·.1)).Nodup->R (Itd d o (.dK kvs) (kvs.map (·.2))) (upd H1 d (.frz o (.dK kvs)))
theorem zpm{X:Cx}{o tg:Expr}{to:TE}{apos cpos:Pos}(ho:QE X o to)(hbase:attributeBase o "values" X.env (eval o X.env)=eval o X.env:=by rfl)(hline:(apos.endLine==cpos.line)=true:=by rfl):QI X tg (.Call (.Attribute o "values" apos) [] [] cpos) (zpz to):=⟨by
 intro pins s σ H R I h
 refine wpAny_Call_method0_late hbase hline (thn (ho.o pins s σ H _ I h) λv s1 ⟨x,H1,I1,r1,q1⟩=>?_)
 obtain⟨d,kvs,rfl,e,q⟩:=q1
 cases r1
 obtain⟨hz,nsys,vs,rel,hD⟩:=zjo I1.hok e
 obtain⟨ob,es,ep,g,ex,dat,ko,pr,nd⟩:=id hD
 have ety:s1.TypeIs (.ref d) "dict":=⟨ob,g,ex.1⟩
 have dlt:d<s1.heap.objs.size:=Heap.lt_size g
 have dat':∀h:Heap,h.get? d=some ob->h.DictAt (zW X.prog X.w) d vs ep:=λh e=>⟨ob,es,e,ex,dat,ko,pr,nd⟩
 have nd':(kvs.map (·.1)).Nodup:=by rw[zde rel];exact nd
 obtain⟨hll,hget⟩:=zdC rel
 refine⟨"dict","dict.values",PySem.F.plainAttrs_dict,PySem.F.slot_dict_values,PySem.F.type_dict_values,ety,λa z=>?_,Calls.callWith_builtin rfl (PySem.evalArgs_none ?_)⟩
 ·cases z;exact⟨ob,g,ex.2.1⟩
 refine wpAny_call_entry PySem.F.slot_dict_values ety PySem.F.entry_dict_values ?_ (PySem.F.args_dict_values_1 _)
 refine wpAny_bind ?_
 unfold Builtin.Dict.noArgs
 refine wpAny_bind (wpAny_notOrdered_dict ety ?_)
 show wpAny _ _ (pure d) _ _ s1
 refine wpAny_pure ?_
 show wpAny _ _ (Builtin.Dict.showsAll d>>=_) _ _ s1
 unfold Builtin.Dict.showsAll
 rw[if_neg (by rw[nsys];exact Bool.false_ne_true)]
 refine wpAny_bind (wpAny_pure ?_)
 refine wpAny_bind (wpAny_newObj_type (wpAny_pure ⟨_,rfl,?_⟩))
 have hv:Heap.IsValuesView (s1.heap.push {cls:= .type "dict_values",data:= .fields #[.ref d]}) s1.heap.objs.size d:=⟨_,Heap.get?_push_size _ rfl,rfl,rfl⟩
 have I2:Inv X pins σ (upd H1 d (.frz ob (.dK kvs))) {s1 with heap:=s1.heap.push {cls:= .type "dict_values",data:= .fields #[.ref d]},toks:=s1.toks}:=(I1.frzK e g).kept (t':=s1.toks) λb o e=>Heap.get?_push_of_some _ e
 refine wpAny_pyIter_values (s:={s1 with heap:=s1.heap.push {cls:= .type "dict_values",data:= .fields #[.ref d]}}) hv (dat' _ (Heap.get?_push_of_some _ g)) ?_
 have itn:(s1.heap.push {cls:= .type "dict_values",data:= .fields #[.ref d]}).objs.size=s1.heap.objs.size+1:=Heap.size_push ..
 refine⟨_,[(s1.heap.push {cls:= .type "dict_values",data:= .fields #[.ref d]}).objs.size],_,_,upd H1 d (.frz ob (.dK kvs)),rfl,I2.kept (t':=s1.toks) λb o e=>Heap.get?_push_of_some _ e,zkj d _ (by rw[itn];exact Nat.ne_of_lt (Nat.lt_succ_of_lt dlt)) ob (.dK kvs) (kvs.map (·.2)) vs ep dat' (λi v hv=>?_) (by rw[List.length_map];exact hll),⟨Nat.zero_le _,⟨_,Heap.get?_push_size _ rfl,rfl,rfl⟩⟩,λb hb=>?_,q ob nd'⟩
 ·rw[List.getElem?_map] at hv
  cases hz:kvs[i]? with
  |none=>rw[hz] at hv;cases hv
  |some p=>
   rw[hz] at hv;cases hv
   have hi:i<vs.length:=by have:=(List.getElem?_eq_some_iff.mp hz).1;omega
   exact⟨vs[i],by simp[hi],(hget i p vs[i] hz (by simp[hi])).2⟩
 ·have:b=(s1.heap.push {cls:= .type "dict_values",data:= .fields #[.ref d]}).objs.size:=by simpa using hb
  subst this
  refine I2.fpOk (Nat.le_refl _) ?_
  rw[ze (by rw[itn];exact Nat.ne_of_gt (Nat.lt_succ_of_lt dlt))]
  exact I1.hok.fresh (by rw[itn];exact Nat.le_succ _)⟩
end L2
namespace L2
open PySem PySem.W PySem.Spec PyProof.Rows
section
variable{prog:Program}{w:World}{A:Around}{E:Value->Shared->Prop}{s:Shared}
theorem zeE{r d:Addr}{T:String}{OK:Heap->Prop}{ks:List Value}{ss:List Str}{R:Value->Shared->Prop}(K:KdlSrc prog w T r d ks.length (λi v=>ks[i]?=some v) OK)(hh:A.handled=none)(hok:OK s.heap)(hS:StrsAre ks ss)(h64:ks.length<64)
 (q:∀(D:Addr) (out:Array Value) (ss':List Str) (h':Heap) (tk e:Nat),StrsAre out.toList ss'->ss'.Perm ss->sortedS ss'=true->(∀b o,s.heap.get? b=some o->h'.get? b=some o)->s.heap.objs.size<=D->h'.get? D=some (seqObj "list" out e)->R (.ref D) {s with heap:=h',toks:=tk}):
 wpAny (model prog w) A (call (.builtin "sorted") [.ref r]) R E s:=by
 refine Calls.call_function_entry kind_sorted plain_sorted entry_sorted (args_sorted1 _) ?_
 unfold Builtin.«sorted»
 refine wpAny_bind (m:=checkCount "sorted" 1 1 _) (wpAny_pure (wpAny_bind (zfd (A:=A.in1) K hh hok (by rw[sizeLine_eq];omega) λh1 tk acc kp gr0 hacc=>?_)))
 have ea:acc.toList=ks:=by
  apply List.ext_getElem?
  intro i
  rcases Nat.lt_or_ge i ks.length with h|h
  ·have hi:i<acc.size:=by rw[hacc.1];exact h
   rw[Array.getElem?_toList,Array.getElem?_eq_getElem hi]
   exact(hacc.2 i acc[i] (by rw[Array.getElem?_eq_getElem hi])).symm
  ·rw[List.getElem?_eq_none h,List.getElem?_eq_none (by rw[Array.length_toList,hacc.1];exact h)]
 rw[ea]
 refine wpAny_bind (wpAny_newList ?_ (by rw[sizeLine_eq];omega))
 have hD:(h1.push (seqObj "list" ks.toArray 0)).get? h1.objs.size=some (seqObj "list" ks.toArray 0):=Heap.get?_push_size _ rfl
 have k2:∀b o,s.heap.get? b=some o->(h1.push (seqObj "list" ks.toArray 0)).get? b=some o:=λb o e=>Heap.get?_push_of_some _ (kp b o e)
 have gr:s.heap.objs.size<=h1.objs.size:=Nat.le_of_lt gr0
 show wpAny _ _ _ _ _ {s with heap:=h1.push (seqObj "list" ks.toArray 0),toks:=tk}
 refine wpAny_bind (wpAny_holding (wpAny_call_entry slot_list_sort ⟨_,hD,rfl⟩ entry_list_sort (list_sort_treeK strKind_oneLt (s:={s with heap:=h1.push (seqObj "list" ks.toArray 0),toks:=tk}) hD hS.keysOf (λv1 v2 rest e=>?_) h64 λst' hp hs=>?_) (args_list_sort _)))
 ·subst e
  exact keyKind_strs hS
 ·obtain ⟨ss',a1,a2,a3⟩:=sorted_out_str hS hp hs
  obtain⟨e,he⟩:=sortedHeap_at (h:=h1.push (seqObj "list" ks.toArray 0)) (vs:=ks) (out:=Array.map (λx=>x.snd) (arrOf st')) hD
  refine⟨_,rfl,wpAny_pure ⟨_,rfl,q h1.objs.size _ ss' _ tk e a1 a2 a3 (λb o hb=>?_) gr he⟩⟩
  have lb:=Heap.lt_size hb
  rw[sortedHeap_old (Nat.ne_of_lt (Nat.lt_of_lt_of_le lb gr)) (Heap.lt_size (k2 b o hb))]
  exact k2 b o hb
end
section
variable{X:Cx}{K:PySem.W.Frag}
theorem zhf(hc:X.calm=true):CallR X (.builtin "sorted") (λxs H Q=>∃(d:Addr) (kvs:List (Key×V)) (ss:List Str),xs=[.ref d]/\H d=some (.dK kvs)/\kvs.map (·.1)=ss.map Sum.inr/\ss.length<64/\
 ∀(ss':List Str) l,ss'.Perm ss->ss'.Pairwise (λa b=>ltS a b=true)->H l=none->Q (.ref l) (upd H l (.lst (ss'.map V.str)))):=by
 intro pins s σ H xs us Q I r h
 obtain⟨d,kvs,ss,rfl,e,hk,h64,q⟩:=h
 obtain⟨u,rfl,ru⟩:=zcN r
 cases ru
 obtain⟨hz,nsys,vs,rel,o,es,ep,g,ex,dat,ko,pr,nd⟩:=zjo I.hok e
 have raw:RawD s.heap d (es.toList.map (·.key)) ep:=⟨o,es,g,ex,dat,rfl⟩
 have vk:Vals (ss.map V.str) (es.toList.map (·.key)):=by
  have h1:=zdB pr
  have h2:ss.map V.str=vs.map λkv=>kV kv.1:=by
   have:=zde rel
   rw[hk] at this
   have:=congrArg (List.map kV) this
   rw[List.map_map,List.map_map] at this
   exact this
  rw[h2];exact h1
 have hnd:ss.Nodup:=by
  rw[←zde rel,hk] at nd
  exact(List.pairwise_map.mp nd).imp λh z=>h (by rw[z])
 have hS:=za6 vk
 have hl:=vk.length
 rw[List.length_map] at hl
 refine zeE (zjJ (ks:=es.toList.map (·.key)) (ep:=ep) nsys) (I.ok.hd hc) raw hS (by omega) λD out ss' h' tk c a1 a2 a3 kp hD he=>?_
 refine⟨.ref D,_,I.laid (a:=D) (o:= .lst (ss'.map V.str)) (t':=tk) kp hD ⟨?_,out.toList,c,?_,?_⟩,rfl,q ss' D a2 (zeN ss' a3 (a2.nodup_iff.mpr hnd)) (I.hok.fresh hD)⟩
 ·rw[List.length_map,a2.length_eq];exact Nat.le_of_lt (zm (by omega))
 ·have mk:∀{vs:List Value} {zs:List Str},StrsAre vs zs->Vals (zs.map V.str) vs:=by
   intro vs zs h
   induction h with
   |nil=>exact .nil
   |cons x t _ ih=>exact .cons ⟨t,rfl⟩ ih
  exact mk a1
 ·rw[Array.toArray_toList];exact he
end
end L2
namespace HT
open PySem PySem.Spec PyProof.Rows L2
section
variable{prog:Program}{w:World}{A:Around}{R:Result->Shared->Prop}{I:Addr}{fp wr:List Addr}{n:Nat}{P:Nat->Value->Prop}{St:Nat->Heap->Prop}
def zla(val:Nat->Value)(lt:Nat->Nat->Bool)(j:Nat)(items:Array Value):Prop:=(j=0/\items= #[])\/∃m<j,items= #[val m,val m]/\∀i<j,i≠m->lt m i=true
theorem zlh(W:Walks prog w A.in1 I fp wr n P St)(val:Nat->Value)(lt:Nat->Nat->Bool)(OK:Heap->Prop)(hval:∀i v,P i v->v=val i)(S:Addr)(hSf:S∉fp)
 (frame:∀h h',OK h->(∀b o,b∉wr->b≠S->h.get? b=some o->h'.get? b=some o)->OK h')
 (cmp:∀i j (s':Shared) (Q E:Value->Shared->Prop),i<n->j<n->i≠j->OK s'.heap->Q (.bool (lt i j)) s'->wpAny (model prog w) A.in1 (richCompare .Lt (val i) (val j)) Q E s')
 (tri:∀i j,i<n->j<n->i≠j->lt i j=false->lt j i=true) (tr:∀i j k,lt i j=true->lt j k=true->lt i k=true) (hn:0<n):
 ∀(k j:Nat) (s:Shared) (items:Array Value) (c:Nat),n -j=k->j<=n->St j s.heap->OK s.heap->zla val lt j items->s.heap.get? S=some {cls:= .type "list",dict:=none,data:= .seq items c,slots:= #[]}->
 (∀m h' tk,m<n->(∀i<n,i≠m->lt m i=true)->(∀b o,b∉wr->b≠S->s.heap.get? b=some o->h'.get? b=some o)->R (.ok (.ret (val m))) {s with heap:=h',toks:=tk})->
 codeAny (model prog w) A (.builtin "min.loop" ⟨[.ref I, .none, .ref S],[]⟩) R s:=by
 have hSw:S∉wr:=λh=>hSf (W.sub _ h)
 have nm:(toString "min"++toString ".loop":String)="min.loop":=by decide
 intro k
 induction k with
 |zero=>
  intro j s items c hk hj hst ok hb hS hR
  have ej:j=n:=by omega
  subst ej
  refine codeAny_builtin F.entry_min_loop ?_
  rw[Around.under_plainId F.plain_min_loop _]
  show wpAny _ A.in1 (seqItems? (.ref S)>>=_) _ _ s
  refine wpAny_bind (wpAny_seqItems hS rfl ?_)
  show wpAny _ A.in1 (tryCatch (pyNext (.ref I)) _>>=_) _ _ s
  refine wpAny_bind (wpAny_tryCatch (W.done s _ _ hst λh' tk hk'=>?_))
  have hS':=hk' S _ hSw hS
  rcases hb with⟨z,_⟩|⟨m,hm,rfl,hbest⟩
  ·omega
  ·show wpAny _ A.in1 (updateSeq S (λ_=> #[])>>=_) _ _ _
   refine wpAny_bind (wpAny_updateSeq hS' rfl (wpAny_bind (wpAny_letGo (wpAny_pure ?_))))
   exact hR m _ tk hm hbest λb o hbw hbS e=>(Heap.get?_update_other _ _ (Ne.symm hbS)).trans (hk' b o hbw e)
 |succ k ih=>
  intro j s items c hk hj hst ok hb hS hR
  refine codeAny_builtin F.entry_min_loop ?_
  rw[Around.under_plainId F.plain_min_loop _]
  show wpAny _ A.in1 (seqItems? (.ref S)>>=_) _ _ s
  refine wpAny_bind (wpAny_seqItems hS rfl ?_)
  show wpAny _ A.in1 (tryCatch (pyNext (.ref I)) _>>=_) _ _ s
  refine wpAny_bind (wpAny_tryCatch (W.item j s _ _ (by omega) hst λv h' tk hP hst' hk'=>?_))
  have hS':=hk' S _ hSw hS
  have ev:=hval _ _ hP
  subst ev
  have okh:OK h':=frame _ _ ok λb o b1 _ e=>hk' b o b1 e
  have go:∀(its:Array Value) (h2:Heap) (tk2 c2:Nat),zla val lt (j+1) its->h2.get? S=some {cls:= .type "list",dict:=none,data:= .seq its c2,slots:= #[]}->St (j+1) h2->(∀b o,b∉wr->b≠S->s.heap.get? b=some o->h2.get? b=some o)->
   codeAny (model prog w) A (.builtin "min.loop" ⟨[.ref I, .none, .ref S],[]⟩) R {s with heap:=h2,toks:=tk2}:=λits h2 tk2 c2 hb2 hS2 st2 k2=>
   ih (j+1) {s with heap:=h2,toks:=tk2} its c2 (by omega) (by omega) st2 (frame _ _ ok k2) hb2 hS2 λm h3 tk3 hm hv k3=>hR m h3 tk3 hm hv λb o b1 b2 e=>k3 b o b1 b2 (k2 b o b1 b2 e)
  have put:∀(its:Array Value) (tk2:Nat),zla val lt (j+1) its->codeAny (model prog w) A (.builtin "min.loop" ⟨[.ref I, .none, .ref S],[]⟩) R {s with heap:=h'.update S (Obj.mapSeq λ_=>its),toks:=tk2}:=λits tk2 hb2=>
   go its _ tk2 _ hb2 (Heap.get?_update_self _ hS' rfl) (W.frame _ _ _ hst' λb hbf o e=>(Heap.get?_update_other _ _ (λh:S=b=>hSf (by rw[h];exact hbf))).trans e) λb o b1 b2 e=>(Heap.get?_update_other _ _ (Ne.symm b2)).trans (hk' b o b1 e)
  rcases hb with⟨z,rfl⟩|⟨m,hm,rfl,hbest⟩
  ·subst z
   show wpAny _ A.in1 (updateSeq S (λ_=> #[val 0,val 0])>>=_) _ _ _
   refine wpAny_bind (wpAny_updateSeq hS' rfl ?_)
   rw[nm]
   exact wpAny_pure ⟨plainId_quiet F.plain_min_loop _,put _ _ (.inr ⟨0,by omega,rfl,λi hi ne=>by omega⟩)⟩
  ·show wpAny _ A.in1 (tryCatch (holding [val j,val j] (richCompare .Lt (val j) (val m)>>=_)) _>>=_) _ _ _
   refine wpAny_bind (wpAny_tryCatch (wpAny_holding (wpAny_bind (cmp j m {s with heap:=h',toks:=tk} _ _ (by omega) (by omega) (by omega) okh ?_))))
   refine wpAny_bind (wpAny_holding (wpAny_truthy_bool ?_))
   refine wpAny_bind (wpAny_letGo (wpAny_pure ?_))
   cases hbb:lt j m with
   |true=>
    simp only[if_true]
    refine wpAny_bind (wpAny_updateSeq hS' rfl (wpAny_bind (wpAny_letGo ?_)))
    rw[nm]
    refine wpAny_pure ⟨plainId_quiet F.plain_min_loop _,put _ _ (.inr ⟨j,by omega,rfl,λi hi ne=>?_⟩)⟩
    by_cases e:i=m
    ·rw[e];exact hbb
    ·exact tr _ _ _ hbb (hbest i (by omega) e)
   |false=>
    simp only[Bool.false_eq_true,if_false]
    refine wpAny_bind (wpAny_letGo ?_)
    rw[nm]
    refine wpAny_pure ⟨plainId_quiet F.plain_min_loop _,go _ _ _ c (.inr ⟨m,by omega,rfl,λi hi ne=>?_⟩) hS' hst' λb o b1 _ e=>hk' b o b1 e⟩
    by_cases e:i=j
    ·rw[e];exact tri _ _ (by omega) (by omega) (by omega) hbb
    ·exact hbest i (by omega) ne
end
theorem zkG(a:Value):argsOk "min" ⟨[a],[]⟩:=by unfold argsOk;kernel_rfl
section
variable{prog:Program}{w:World}{A:Around}{E:Value->Shared->Prop}{s:Shared}
theorem call_minL{l:Addr}{its:Array Value}{Q:Value->Shared->Prop}(hA:A.handled=none)(hl:s.heap.IsList l its)(val:Nat->Value)(lt:Nat->Nat->Bool)(hval:∀(i:Nat) (v:Value),its[i]?=some v->v=val i)(hn:0<its.size)
 (cmp:∀i j (s':Shared) (Q E:Value->Shared->Prop),i<its.size->j<its.size->i≠j->(∀b o,s.heap.get? b=some o->s'.heap.get? b=some o)->Q (.bool (lt i j)) s'->wpAny (model prog w) A.in1 (richCompare .Lt (val i) (val j)) Q E s')
 (tri:∀i j,i<its.size->j<its.size->i≠j->lt i j=false->lt j i=true) (tr:∀i j k,lt i j=true->lt j k=true->lt i k=true)
 (h:∀m h' tk,m<its.size->(∀i<its.size,i≠m->lt m i=true)->(∀b o,s.heap.get? b=some o->h'.get? b=some o)->Q (val m) {s with heap:=h',toks:=tk}):
 wpAny (model prog w) A (call (.builtin "min") [.ref l]) Q E s:=by
 have nm:(toString "min"++toString ".loop":String)="min.loop":=by decide
 refine wpAny_call (codeAny_call_builtin F.plain_min F.entry_min ?_)
 have ck:checkBuiltinCall "min" ⟨[.ref l],[]⟩=pure ():=by
  simp only[checkBuiltinCall,F.kind_min]
  have ha:=zkG (.ref l)
  unfold argsOk at ha
  cases hsig:Manifest.signature? "min"with
  |none=>rfl
  |some sig=>rw[hsig] at ha;exact ha
 refine wpAny_of_eq ck ?_
 have bp:Builtin.Builtins.bindParams "min" ["key","default"] 0 ⟨[],[]⟩=pure [none,none]:=by rfl
 show wpAny _ A.in1 (Builtin.Builtins.bindParams "min" ["key","default"] 0 ⟨[],[]⟩>>=_) _ _ s
 refine wpAny_bind (wpAny_of_eq bp ?_)
 refine wpAny_bind (wpAny_pure ?_)
 refine wpAny_bind (wpAny_pyIter_list hl ?_)
 refine wpAny_bind (wpAny_newObj_type ?_)
 rw[nm]
 have hp:l≠s.heap.objs.size:=Nat.ne_of_lt (by obtain⟨o,ho,_⟩:=hl;exact Heap.lt_size ho)
 have sz:(s.heap.push {cls:= .type "list_iterator",data:= .fields #[.ref l, .int 0 0]}).objs.size=s.heap.objs.size+1:=Heap.size_push ..
 have llt:l<s.heap.objs.size:=by obtain⟨o,ho,_⟩:=hl;exact Heap.lt_size ho
 refine wpAny_pure ⟨plainId_quiet F.plain_min_loop _,?_⟩
 have nw:∀{b:Addr} {o:Obj},s.heap.get? b=some o->b∉ [s.heap.objs.size]:=λ{b o} e z=>by
  have:b=s.heap.objs.size:=by simpa using z
  exact absurd (Heap.lt_size e) (by rw[this];exact Nat.lt_irrefl _)
 have nS:∀{b:Addr} {o:Obj},s.heap.get? b=some o->b≠(s.heap.push {cls:= .type "list_iterator",data:= .fields #[.ref l, .int 0 0]}).objs.size:=λ{b o} e z=>by
  rw[sz] at z
  exact absurd (Heap.lt_size e) (by rw[z];exact Nat.not_lt.mpr (Nat.le_succ _))
 refine zlh (Walks.list (A:=A.in1) (show A.in1.handled=none from hA) s.heap.objs.size l hp its) val lt (λh=>∀b o,s.heap.get? b=some o->h.get? b=some o) (λi v e=>hval i v e) _ ?_ (λh h' ok k b o e=>k b o (nw e) (nS e) (ok b o e)) (λi j s' Q E hi hj ne ok q=>cmp i j s' Q E hi hj ne ok q) tri tr hn _ 0 _ #[] 0 rfl (Nat.zero_le _) ?_ ?_ (.inl ⟨rfl,rfl⟩) (Heap.get?_push_size _ rfl) λm h' tk hm hv k=>h m h' tk hm hv λb o e=>k b o (nw e) (nS e) (Heap.get?_push_of_some _ (Heap.get?_push_of_some _ e))
 ·show (s.heap.push _).objs.size∉_
  rw[sz]
  simp only[List.mem_cons,List.not_mem_nil,or_false,not_or]
  exact⟨Nat.ne_of_gt (Nat.lt_succ_self _),Nat.ne_of_gt (Nat.lt_succ_of_lt llt)⟩
 ·refine ⟨⟨_,Heap.get?_push_of_some _ (Heap.get?_push_size _ rfl),rfl,rfl⟩,?_⟩
  obtain⟨o,ho,r⟩:=hl
  exact⟨o,Heap.get?_push_of_some _ (Heap.get?_push_of_some _ ho),r⟩
 ·exact λb o e=>Heap.get?_push_of_some _ (Heap.get?_push_of_some _ e)
end
end HT
namespace L2
open PySem PySem.Spec PyProof.Rows RW
section
variable{X:Cx}{K:PySem.W.Frag}
theorem zej{α:Type}{N:List α}(hN:N.Nodup){i j:Nat}{x:α}(a:N[i]?=some x)(b:N[j]?=some x):i=j:=by
 obtain⟨h1,e1⟩:=List.getElem?_eq_some_iff.mp a
 obtain⟨h2,e2⟩:=List.getElem?_eq_some_iff.mp b
 exact(List.getElem_inj hN).mp (e1.trans e2.symm)
def KmO(H:Hp)(b:Addr)(k:Ky)(v:V):Prop:=∃t,H b=some (.tup [.ref t,v])/\KeyO H t k
structure RawKm(h:Heap)(b:Addr)(k:Ky):Prop where
 at_:∃t u,IsTup h b #[.ref t,u]/\RawK h t k
theorem zl3{prog:Program}{w:World}{A:Around}{E:Value->Shared->Prop}{s:Shared}{a b:Addr}{k1 k2:Ky}{Q:Value->Shared->Prop}(hu:A.units+64<cLine)(x:RawKm s.heap a k1)(y:RawKm s.heap b k2)(ne:k1≠k2)(q:Q (.bool (ltK k1 k2)) s):wpAny (model prog w) A (richCompare .Lt (.ref a) (.ref b)) Q E s:=by
 obtain⟨t,u,ha,x⟩:=x.at_
 obtain⟨t',u',hb,y⟩:=y.at_
 obtain⟨⟨c1,d1,e1,f1⟩,ho,hc,n,hd⟩:=id ha
 obtain⟨⟨c2,d2,e2,f2⟩,ho2,hc2,n2,hd2⟩:=id hb
 simp only at hc hd hc2 hd2
 subst hc hd hc2 hd2
 refine richCompare_meets_room (op:= .Lt) ⟨_,ho,rfl⟩ ⟨_,ho2,rfl⟩ PySem.F.slot_tuple_lt PySem.F.entry_tuple_lt (PySem.F.args_tuple_lt_2 _ _) (zcF a b n n2 d1 d2 f1 f2 [.ref t,u] [.ref t',u'] 0 (ltK k1 k2)) ⟨ho,ho2,λprog w i x y hi=>absurd hi (Nat.not_lt_zero _),Nat.zero_le _,Nat.zero_le _, .inr ⟨_,_,rfl,rfl,λprog w E Q hq=>?_,λprog w E Q hq=>?_⟩,⟨(λx=>nomatch x),q⟩⟩ (by omega)
 ·refine zmH (by show A.units+1+62<cLine;omega) x y ?_
  rw[decide_eq_false ne];exact hq
 ·exact znl (by show A.units+1+63<cLine;omega) x y hq
theorem KmO.raw{pins:List (Addr×Obj)}{σ:L2.St}{H:Hp}{s:Shared}{h':Heap}(I:Inv X pins σ H s){b:Addr}{k:Ky}{v:V}(x:KmO H b k v)(kp:∀b o,s.heap.get? b=some o->h'.get? b=some o):RawKm h' b k:=by
 obtain⟨t,e,o⟩:=x
 obtain⟨its,r1,t1,_⟩:=I.tuple (SqT.of e)
 obtain⟨_,_,rfl,x1,x2⟩:=zih r1
 cases x1
 exact⟨⟨t,_,zdz t1 kp,o.raw I kp⟩⟩
def zo7:List V->Hp->VK->Prop:=λxs H Q=>∃(l:Addr) (bs:List Addr) (ks:List Ky),xs=[.ref l]/\H l=some (.lst (bs.map V.ref))/\bs.length=ks.length/\(∀(i:Nat) (b:Addr) (k:Ky),bs[i]?=some b->ks[i]?=some k->∃v,KmO H b k v)/\ks.Nodup/\0<ks.length/\
 ∀(m:Nat) (b:Addr) (k:Ky),bs[m]?=some b->ks[m]?=some k->(∀k'∈ks,k'≠k->ltK k k'=true)->Q (.ref b) H
theorem ziS(hc:X.calm=true)(hu:X.A.units+70<cLine):CallR X (.builtin "min") zo7:=by
 intro pins s σ H xs us Q I r h
 obtain⟨l,bs,ks,rfl,hl,hlen,hk,nd,h0,q⟩:=h
 obtain⟨u,rfl,ru⟩:=zcN r
 cases ru
 obtain⟨its,rv,pl,hz⟩:=I.list (SqL.of hl)
 have ei:=zkH rv
 subst ei
 have sz:(bs.map Value.ref).toArray.size=ks.length:=by simp[hlen]
 have gb:∀i,i<ks.length->bs[i]?=some (bs.getD i 0):=λi h=>by simp[show i<bs.length by omega]
 have gk:∀i,i<ks.length->ks[i]?=some (ks.getD i (0,0,[])):=λi h=>by simp[h]
 refine HT.call_minL (I.ok.hd hc) pl.isList (λi=> .ref (bs.getD i 0)) (λi j=>ltK (ks.getD i (0,0,[])) (ks.getD j (0,0,[]))) (λi v e=>?_) (by rw[sz];exact h0) (λi j s' Q E hi hj ne kp hq=>?_) (λi j hi hj ne e=>?_) (λi j k a b=>zkQ a b) λm h' tk hm hb kp=>?_
 ·rw[List.getElem?_toArray,List.getElem?_map] at e
  cases e2:bs[i]? with
  |none=>rw[e2] at e;cases e
  |some b=>rw[e2] at e;cases e;simp[List.getD,e2]
 ·rw[sz] at hi hj
  obtain⟨v,o1⟩:=hk i _ _ (gb i hi) (gk i hi)
  obtain⟨v',o2⟩:=hk j _ _ (gb j hj) (gk j hj)
  refine zl3 (by show X.A.units+1+64<cLine;omega) (o1.raw I kp) (o2.raw I kp) (λz=>ne ?_) hq
  have h1:=gk i hi
  rw[z] at h1
  exact zej nd h1 (gk j hj)
 ·rw[sz] at hi hj
  refine zlw (λz=>ne ?_) e
  have h1:=gk i hi
  rw[z] at h1
  exact zej nd h1 (gk j hj)
 ·rw[sz] at hm hb
  refine⟨.ref _,_,I.kept (t':=tk) kp,rfl,q m _ _ (gb m hm) (gk m hm) λk' hk' ne=>?_⟩
  obtain⟨i,hi,e⟩:=List.getElem_of_mem hk'
  have:=hb i hi λz=>ne (by rw[←e,←z];simp[hi])
  rw[←e]
  simpa[List.getD,hi] using this
end
end L2
namespace RW
open PySem PySem.Spec PyProof.Rows L2
inductive TrX(K:PySem.W.Frag)(H:Hp):V->PyData->Prop
 |non:TrX K H .non .none
 |int (i:Int):TrX K H (.int i) (.int i)
 |str (x:Str) (h:PyData.strOk x=true):TrX K H (.str x) (.str x)
 |tup {p:Addr} {vs:List V} {ds:List PyData} (e:SqT K H p vs) (hl:vs.length=ds.length) (h:∀(i:Nat) (v:V) (d:PyData),vs[i]?=some v->ds[i]?=some d->TrX K H v d):TrX K H (.ref p) (.tuple ds)
 |lst {p:Addr} {vs:List V} {ds:List PyData} (e:H p=some (.lst vs)) (hl:vs.length=ds.length) (h:∀(i:Nat) (v:V) (d:PyData),vs[i]?=some v->ds[i]?=some d->TrX K H v d):TrX K H (.ref p) (.list ds)
theorem TrX.reads{X:Cx}{pins:List (Addr×Obj)}{σ:L2.St}{H:Hp}{s:Shared}(I:Inv X pins σ H s){x:V}{d:PyData}(t:TrX X.K H x d):∀v,RelV x v->∃as,Reads s.heap v d as:=by
 induction t with
 |non=>intro v r;cases r;exact⟨_, .none⟩
 |int i=>intro v r;obtain⟨t,rfl⟩:=r;exact⟨_, .int i t⟩
 |str x h=>intro v r;obtain⟨t,rfl⟩:=r;exact⟨_, .str x t⟩
 |tup e hl h ih=>
  intro v r
  cases r
  obtain⟨its,rv,⟨o,ho,hc,n,hd⟩,_⟩:=I.tuple e
  obtain⟨bs,hb⟩:=za8 (h:=s.heap) rv hl ih
  exact⟨_, .tuple ho hc hd (by simpa using hb)⟩
 |lst e hl h ih=>
  intro v r
  cases r
  obtain⟨its,n,rv,ho,_⟩:=I.lst e
  obtain⟨bs,hb⟩:=za8 (h:=s.heap) rv hl ih
  exact⟨_, .list ho rfl rfl (by simpa using hb)⟩
theorem TrX.can{K:PySem.W.Frag}{H:Hp}{x:V}{d:PyData}(t:TrX K H x d):d.canLay0=true:=by
 induction t with
 |non=>rfl
 |int i=>rfl
 |str x h=>simp only[PyData.canLay0];exact h
 |tup e hl h ih=>rw[PyData.canLay0];exact zb0 hl ih
 |lst e hl h ih=>rw[PyData.canLay0];exact zb0 hl ih
theorem zoJ{X:Cx}(hu:X.A.units+64<cLine):OpR X (compareOp .NotEq) (λx y H Q=>∃d e,TrX X.K H x d/\TrX X.K H y e/\min d.depth e.depth<=60/\Q (.bl (!d.eqv e)) H):=by
 intro pins s σ H x y v u Q I rx ry h
 obtain⟨d,e,t1,t2,hd,q⟩:=h
 obtain⟨as,r1⟩:=t1.reads I v rx
 obtain⟨bs,r2⟩:=t2.reads I u ry
 exact SeqAt.compareNe_reads r1 r2 t1.can t2.can (by omega) ⟨.bl _,H,I,rfl,q⟩
noncomputable abbrev Hr:=Int×Option WM
noncomputable abbrev Tb:=List (Str×Hr)
noncomputable abbrev Lt:=Str×Hr
noncomputable def zt(m:Tb)(x:Str):Option Hr:=(m.find? λp=>decide (p.1=x)).map (·.2)
noncomputable def zb3(m:Tb)(x:Str)(r:Hr):Tb:=if(m.any λp=>decide (p.1=x))=true then m.map (λp=>if p.1=x then(p.1,r)else p)else m ++ [(x,r)]
theorem zad{p:Str×Hr}{m:Tb}{x:Str}(e:p.1=x):zt (p::m) x=some p.2:=by simp[zt,List.find?_cons,e]
theorem zap{p:Str×Hr}{m:Tb}{x:Str}(e:¬p.1=x):zt (p::m) x=zt m x:=by simp[zt,List.find?_cons,e]
theorem zbZ(x:Str):∀m:Tb,(m.any λp=>decide (p.1=x))=(zt m x).isSome
 |[]=>rfl
 |p::m=>by
  rw[List.any_cons,zbZ x m]
  by_cases e:p.1=x
  ·rw[zad e,decide_eq_true e];rfl
  ·rw[zap e,decide_eq_false e];rfl
theorem zgn(x y:Str)(r:Hr):∀m:Tb,zt (m.map λp=>if p.1=x then(p.1,r)else p) y=(zt m y).map λz=>if y=x then r else z
 |[]=>rfl
 |p::m=>by
  rw[List.map_cons]
  by_cases e:p.1=y
  ·by_cases e2:p.1=x
   ·rw[if_pos e2,zad (p:=(p.1,r)) e,zad e,Option.map_some,if_pos (by rw[←e];exact e2)]
   ·rw[if_neg e2,zad e,zad e,Option.map_some,if_neg (by rw[←e];exact e2)]
  ·rw[zap e,←zgn x y r m]
   by_cases e2:p.1=x
   ·rw[if_pos e2,zap (p:=(p.1,r)) e]
   ·rw[if_neg e2,zap e]
theorem ze3(x y:Str)(r:Hr):∀m:Tb,zt m x=none->zt (m ++ [(x,r)]) y=if y=x then some r else zt m y
 |[],_=>by
  by_cases e:y=x
  ·rw[if_pos e,e];exact zad rfl
  ·rw[if_neg e];exact zap (p:=(x,r)) (λz=>e z.symm)
 |p::m,h=>by
  by_cases e2:p.1=x
  ·rw[zad e2] at h;cases h
  ·rw[zap e2] at h
   rw[List.cons_append]
   by_cases e:p.1=y
   ·rw[zad e,zad e,if_neg (by rw[←e];exact e2)]
   ·rw[zap e,zap e];exact ze3 x y r m h
theorem zdj(m:Tb)(x y:Str)(r:Hr):zt (zb3 m x r) y=if y=x then some r else zt m y:=by
 unfold zb3
 rw[zbZ]
 cases h:zt m x with
 |none=>rw[if_neg (by simp)];exact ze3 x y r m h
 |some z=>
  rw[if_pos (show(some z).isSome=true from rfl),zgn]
  by_cases e:y=x
  ·rw[e,h,if_pos rfl,Option.map_some,if_pos rfl]
  ·rw[if_neg e];cases zt m y with
   |none=>rfl
   |some w=>rw[Option.map_some,if_neg e]
theorem zf1(m:Tb)(x:Str)(r:Hr):(zt m x=none->zb3 m x r=m ++ [(x,r)])/\(zt m x≠none->(zb3 m x r).map (·.1)=m.map (·.1)):=by
 unfold zb3
 rw[zbZ]
 refine⟨λh=>by rw[h,if_neg (by simp)],λh=>?_⟩
 cases e:zt m x with
 |none=>exact absurd e h
 |some z=>
  rw[if_pos (show(some z).isSome=true from rfl),List.map_map]
  refine List.map_congr_left λp _=>?_
  show(if p.1=x then(p.1,r)else p).1=p.1
  split<;>rfl
theorem zda{m:Tb}{x:Str}{r:Hr}(h:zt m x=some r):(x,r)∈m:=by
 unfold zt at h
 cases e:m.find? λp=>decide (p.1=x)with
 |none=>rw[e] at h;cases h
 |some p=>
  rw[e] at h
  cases h
  have:=List.mem_of_find?_eq_some e
  have h2:p.1=x:=by simpa using List.find?_some e
  rw[←h2];exact this
theorem zcG:∀{m:Tb} {x:Str} {r:Hr},(m.map (·.1)).Nodup->(x,r)∈m->zt m x=some r
 |p::m,x,r,nd,h=>by
  rw[List.map_cons,List.nodup_cons] at nd
  rcases List.mem_cons.mp h with h|h
  ·rw[←h];exact zad rfl
  ·rw[zap λz=>nd.1 (by rw[z];exact List.mem_map.mpr ⟨_,h,rfl⟩)]
   exact zcG nd.2 h
theorem lookT_key{m:Tb}{x:Str}:x∈m.map (·.1)↔zt m x≠none:=by
 constructor
 ·intro h z
  obtain⟨p,hp,rfl⟩:=List.mem_map.mp h
  have:=zbZ p.1 m
  rw[z] at this
  have h2:=List.any_eq_false.mp this p hp
  exact h2 (decide_eq_true rfl)
 ·intro h
  cases e:zt m x with
  |none=>exact absurd e h
  |some r=>exact List.mem_map.mpr ⟨_,zda e,rfl⟩
theorem zjq{m:Tb}{x:Str}{r:Hr}(nd:(m.map (·.1)).Nodup):((zb3 m x r).map (·.1)).Nodup:=by
 cases e:zt m x with
 |none=>
  rw[(zf1 m x r).1 e,List.map_append]
  refine List.nodup_append.mpr ⟨nd,by simp,λa ha b hb z=>?_⟩
  rw[List.map_cons,List.map_nil,List.mem_singleton] at hb
  rw[z,hb] at ha
  exact lookT_key.mp ha e
 |some z=>rw[(zf1 m x r).2 (by rw[e];exact λz=>nomatch z)];exact nd
noncomputable def zdA(r:Option Hr):Int:=match r with|none=>0|some r=>r.1
noncomputable def zeo(m:Tb)(l:Lt):Tb:=if l.2.1<=zdA (zt m l.1)then m else zb3 m l.1 l.2
noncomputable def zT(ls:List Lt):Tb:=ls.foldl zeo []
theorem ze1{ls:List Lt}{l:Lt}:zT (ls ++ [l])=zeo (zT ls) l:=by unfold zT;rw[List.foldl_append];rfl
theorem zeT:∀(ls:List Lt) (m:Tb),(m.map (·.1)).Nodup->((ls.foldl zeo m).map (·.1)).Nodup
 |[],m,h=>h
 |l::ls,m,h=>by
  refine zeT ls _ ?_
  unfold zeo
  split
  ·exact h
  ·exact zjq h
def Uq(ls:List Lt):Prop:=∀x n b b',(x,n,b)∈ls->(x,n,b')∈ls->b=b'
theorem zcH(ls:List Lt):∀(x:Str),(zt (zT ls) x=none/\∀n b,(x,n,b)∈ls->n<=0)\/∃n b,zt (zT ls) x=some (n,b)/\0<n/\(x,n,b)∈ls/\∀n' b',(x,n',b')∈ls->n'<=n:=by
 intro x
 suffices h:∀(k:Nat),k<=ls.length->(zt (zT (ls.take k)) x=none/\∀n b,(x,n,b)∈ls.take k->n<=0)\/∃n b,zt (zT (ls.take k)) x=some (n,b)/\0<n/\(x,n,b)∈ls.take k/\∀n' b',(x,n',b')∈ls.take k->n'<=n by
  have:=h ls.length (Nat.le_refl _)
  rwa[List.take_length] at this
 intro k
 induction k with
 |zero=>exact λ_=> .inl ⟨rfl,λn b z=>by simp at z⟩
 |succ k ih=>
  intro hk
  have hk':k<ls.length:=hk
  have tk:ls.take (k+1)=ls.take k ++ [ls[k]]:=by rw[List.take_add_one,List.getElem?_eq_getElem hk'];rfl
  rw[tk,ze1]
  generalize ls[k]=l at *
  obtain⟨y,n0,b0⟩:=l
  have ih:=ih (by omega)
  have mm:∀{p:Lt},p∈ls.take k ++ [(y,n0,b0)]↔p∈ls.take k\/p=(y,n0,b0):=λ{p}=>by rw[List.mem_append,List.mem_singleton]
  unfold zeo
  by_cases e:x=y
  ·subst e
   by_cases c:n0<=zdA (zt (zT (ls.take k)) x)
   ·rw[if_pos c]
    rcases ih with⟨h1,h2⟩|⟨n,b,h1,h2,h3,h4⟩
    ·rw[h1] at c⊢
     refine .inl ⟨rfl,λn b h=>?_⟩
     rcases mm.mp h with h|h
     ·exact h2 n b h
     ·cases h;exact c
    ·rw[h1] at c⊢
     refine .inr ⟨n,b,rfl,h2,mm.mpr (.inl h3),λn' b' h=>?_⟩
     rcases mm.mp h with h|h
     ·exact h4 n' b' h
     ·cases h;exact c
   ·rw[if_neg c,zdj,if_pos rfl]
    have c:zdA (zt (zT (ls.take k)) x)<n0:=Int.not_le.mp c
    rcases ih with⟨h1,h2⟩|⟨n,b,h1,h2,h3,h4⟩
    ·rw[h1] at c
     have c:(0:Int)<n0:=c
     refine .inr ⟨n0,b0,rfl,c,mm.mpr (.inr rfl),λn' b' h=>?_⟩
     rcases mm.mp h with h|h
     ·have:=h2 n' b' h;omega
     ·cases h;exact Int.le_refl _
    ·rw[h1] at c
     have c:n<n0:=c
     refine .inr ⟨n0,b0,rfl,by omega,mm.mpr (.inr rfl),λn' b' h=>?_⟩
     rcases mm.mp h with h|h
     ·have:=h4 n' b' h;omega
     ·cases h;exact Int.le_refl _
  ·have lk:zt (if n0<=zdA (zt (zT (ls.take k)) y)then zT (ls.take k)else zb3 (zT (ls.take k)) y (n0,b0)) x=zt (zT (ls.take k)) x:=by
    split
    ·rfl
    ·rw[zdj,if_neg e]
   show(zt (if n0<=zdA (zt (zT (ls.take k)) y)then zT (ls.take k)else zb3 (zT (ls.take k)) y (n0,b0)) x=none/\_)\/∃n b,zt (if n0<=zdA (zt (zT (ls.take k)) y)then zT (ls.take k)else zb3 (zT (ls.take k)) y (n0,b0)) x=_/\_
   rw[lk]
   rcases ih with⟨h1,h2⟩|⟨n,b,h1,h2,h3,h4⟩
   ·refine .inl ⟨h1,λn b h=>?_⟩
    rcases mm.mp h with h|h
    ·exact h2 n b h
    ·cases h;exact absurd rfl e
   ·refine .inr ⟨n,b,h1,h2,mm.mpr (.inl h3),λn' b' h=>?_⟩
    rcases mm.mp h with h|h
    ·exact h4 n' b' h
    ·cases h;exact absurd rfl e
theorem zkC{ls few many:List Lt}(uq:Uq ls)(pos:∀x n b,(x,n,b)∈ls->0<n)(h1:∀p,p∈many↔p∈ls)(h2:∀p∈few,p∈ls)(h3:∀x n b,(x,n,b)∈ls->∃n' b',(x,n',b')∈few/\n<=n')(x:Str):zt (zT many) x=zt (zT few) x:=by
 rcases zcH many x with⟨a1,a2⟩|⟨n,b,a1,a2,a3,a4⟩
 ·rw[a1]
  rcases zcH few x with⟨c1,_⟩|⟨n',b',c1,c2,c3,c4⟩
  ·exact c1.symm
  ·have:=a2 n' b' ((h1 _).mpr (h2 _ c3));omega
 ·rw[a1]
  obtain⟨n1,b1,m1,l1⟩:=h3 x n b ((h1 _).mp a3)
  rcases zcH few x with⟨c1,c2⟩|⟨n',b',c1,c2,c3,c4⟩
  ·have:=c2 n1 b1 m1
   have:=pos _ _ _ (h2 _ m1)
   omega
  ·rw[c1]
   have e1:=a4 n' b' ((h1 _).mpr (h2 _ c3))
   have e2:=c4 n1 b1 m1
   have en:n=n':=by omega
   subst en
   rw[uq x n b b' ((h1 _).mp a3) (h2 _ c3)]
noncomputable def zcU(nm:Str)(rs:List D)(p:Str×Hr):Option WM:=match p.2.2 with|none=>none|some (w,ms)=>if nm∈w\/zcC (zP (nm::w) ms rs)=true then none else some (nm::w,ms)
noncomputable def zci(nm:Str)(rs:List D)(m:Tb):List WM:=m.filterMap (zcU nm rs)
def zgv(rs:List D)(es:List WM):Option WM->Prop
 |none=>es=[]
 |some e=>e∈es/\∀e'∈es,kE rs e'≠kE rs e->ltK (kE rs e) (kE rs e')=true
theorem zkr{rs:List D}{es es':List WM}(h:∀e,e∈es↔e∈es')(u:∀e∈es,∀e'∈es,e.1=e'.1->e=e'){b b':Option WM}(h1:zgv rs es b)(h2:zgv rs es' b'):b=b':=by
 cases b with
 |none=>
  cases b' with
  |none=>rfl
  |some e'=>
   have h1:es=[]:=h1
   have:=(h e').mpr h2.1
   rw[h1] at this;cases this
 |some e=>
  cases b' with
  |none=>
   have h2:es'=[]:=h2
   have:=(h e).mp h1.1
   rw[h2] at this;cases this
  |some e'=>
   by_cases c:kE rs e'=kE rs e
   ·have e1:e'.1=e.1:=congrArg (λk:Ky=>k.2.2) c
    rw[u e h1.1 e' ((h _).mpr h2.1) e1.symm]
   ·have l1:=h1.2 e' ((h _).mpr h2.1) c
    have l2:=h2.2 e ((h _).mp h1.1) (Ne.symm c)
    rw[znh l1] at l2;cases l2
theorem zdg{nm:Str}{rs:List D}{m:Tb}(nd:(m.map (·.1)).Nodup){e:WM}:e∈zci nm rs m↔∃x r,zt m x=some r/\zcU nm rs (x,r)=some e:=by
 unfold zci
 rw[List.mem_filterMap]
 exact⟨λ⟨⟨x,r⟩,h,o⟩=>⟨x,r,zcG nd h,o⟩,λ⟨x,r,h,o⟩=>⟨(x,r),zda h,o⟩⟩
noncomputable def zcc(rs:List D)(b:Option WM)(o:Str):Option WM:=match b with|none=>none|some (w,ms)=>(zR w (some o) rs ms).map λt=>(w,t)
noncomputable def zao(tm:Tb)(o:Str):Option WM:=match zt tm o with|none=>none|some r=>r.2
noncomputable def zcf(rs:List D)(b:Option WM)(tm:Tb)(o:Str):Tb:=if zcc rs b o=zao tm o then tm else zb3 tm o (zdA (zt tm o)+1,zcc rs b o)
noncomputable def zfJ(rs:List D)(b:Option WM)(tm:Tb)(o:Str):List Lt:=if zcc rs b o=zao tm o then [] else [(o,zdA (zt tm o)+1,zcc rs b o)]
theorem zeW{rs:List D}{b:Option WM}{tm:Tb}{o y:Str}:zao (zcf rs b tm o) y=if y=o then zcc rs b o else zao tm y:=by
 unfold zcf
 split
 ·rename_i h
  by_cases e:y=o
  ·rw[if_pos e,e,h]
  ·rw[if_neg e]
 ·show (match zt (zb3 tm o _) y with|none=>none|some r=>r.2)=_
  rw[zdj]
  by_cases e:y=o
  ·rw[if_pos e,if_pos e]
  ·rw[if_neg e,if_neg e];rfl
noncomputable def zb1(T:List Lt)(o:Str):Option WM:=match(T.reverse.find? λp=>decide (p.1=o))with|none=>none|some p=>p.2.2
theorem zfw{T:List Lt}{p:Lt}{o:Str}:zb1 (T ++ [p]) o=if p.1=o then p.2.2 else zb1 T o:=by
 unfold zb1
 rw[List.reverse_append,List.reverse_singleton,List.singleton_append,List.find?_cons]
 by_cases e:p.1=o
 ·rw[decide_eq_true e,if_pos e]
 ·rw[decide_eq_false e,if_neg e]
theorem zkm{rs:List D}{b:Option WM}{tm:Tb}{T:List Lt}{o:Str}(h:∀y,zb1 T y=zao tm y)(y:Str):zb1 (T ++zfJ rs b tm o) y=zao (zcf rs b tm o) y:=by
 rw[zeW]
 unfold zfJ
 split
 ·rename_i e
  rw[List.append_nil,h]
  by_cases c:y=o
  ·rw[if_pos c,c,e]
  ·rw[if_neg c]
 ·rw[zfw]
  by_cases c:y=o
  ·rw[if_pos c,if_pos c.symm]
  ·rw[if_neg c,if_neg (λz=>c z.symm),h]
noncomputable def zcQ(rs:List D)(b:Option WM)(tm:Tb)(os:List Str):Tb:=os.foldl (zcf rs b) tm
noncomputable def zcT(rs:List D)(b:Option WM):Tb->List Str->List Lt
 |_,[]=> []
 |tm,o::os=>zfJ rs b tm o ++zcT rs b (zcf rs b tm o) os
theorem ziu{rs:List D}{b:Option WM}{tm:Tb}{os:List Str}{o:Str}:zcQ rs b tm (os ++ [o])=zcf rs b (zcQ rs b tm os) o:=by unfold zcQ;rw[List.foldl_append];rfl
theorem zgi{rs:List D}{b:Option WM}{o:Str}:∀{os:List Str} {tm:Tb},zcT rs b tm (os ++ [o])=zcT rs b tm os ++zfJ rs b (zcQ rs b tm os) o
 |[],tm=>by rw[List.nil_append,zcT,zcT,zcT,List.append_nil,List.nil_append];rfl
 |p::os,tm=>by rw[List.cons_append,zcT,zgi (os:=os),zcT,List.append_assoc];rfl
theorem zlG{rs:List D}{b:Option WM}{tm:Tb}{o:Str}:(zfJ rs b tm o).length<=1:=by unfold zfJ;split<;>simp
theorem zdU{rs:List D}{b:Option WM}:∀{os:List Str} {tm:Tb},(zcT rs b tm os).length<=os.length
 |[],tm=>Nat.le_refl _
 |p::os,tm=>by
  rw[zcT,List.length_append,List.length_cons]
  have h1:=zlG (rs:=rs) (b:=b) (tm:=tm) (o:=p)
  have h2:=zdU (rs:=rs) (b:=b) (os:=os) (tm:=zcf rs b tm p)
  omega
theorem zdt{rs:List D}{b:Option WM}{y:Str}:∀{os:List Str} {tm:Tb},zao (zcQ rs b tm os) y=if y∈os then zcc rs b y else zao tm y
 |[],tm=>by rw[if_neg (by simp)];rfl
 |p::os,tm=>by
  show zao (zcQ rs b (zcf rs b tm p) os) y=_
  rw[zdt (os:=os),zeW]
  by_cases h1:y∈os
  ·rw[if_pos h1,if_pos (List.mem_cons_of_mem _ h1)]
  ·rw[if_neg h1]
   by_cases h2:y=p
   ·rw[if_pos h2,if_pos (by rw[h2];exact List.mem_cons_self),h2]
   ·rw[if_neg h2,if_neg (λz=>(List.mem_cons.mp z).elim h2 h1)]
theorem zd6{rs:List D}{b:Option WM}:∀{os:List Str} {tm:Tb} {T:List Lt},(∀y,zb1 T y=zao tm y)->∀y,zb1 (T ++zcT rs b tm os) y=zao (zcQ rs b tm os) y
 |[],tm,T,h,y=>by rw[zcT,List.append_nil];exact h y
 |p::os,tm,T,h,y=>by
  rw[zcT,←List.append_assoc]
  exact zd6 (os:=os) (zkm h) y
structure TbOk(hs:List Str)(ok:Str->Hr->Prop)(tm:Tb):Prop where
 nd:(tm.map (·.1)).Nodup
 mem:∀p∈tm,p.1∈hs/\ok p.1 p.2
theorem TbOk.nil{hs:List Str}{ok:Str->Hr->Prop}:TbOk hs ok []:=⟨List.nodup_nil,λ_ z=>nomatch z⟩
theorem zga{m:Tb}{x:Str}{r:Hr}{p:Str×Hr}(h:p∈zb3 m x r):p∈m\/p=(x,r):=by
 unfold zb3 at h
 split at h
 ·obtain ⟨q,hq,e⟩:=List.mem_map.mp h
  by_cases c:q.1=x
  ·rw[if_pos c] at e;exact .inr (by rw[←e,c])
  ·rw[if_neg c] at e;exact .inl (by rw[←e];exact hq)
 ·rcases List.mem_append.mp h with h|h
  ·exact .inl h
  ·exact .inr (List.mem_singleton.mp h)
theorem TbOk.put{hs:List Str}{ok:Str->Hr->Prop}{tm:Tb}{x:Str}{r:Hr}(h:TbOk hs ok tm)(hx:x∈hs)(ho:ok x r):TbOk hs ok (zb3 tm x r):=
 ⟨zjq h.nd,λp hp=>by
   rcases zga hp with h1|h1
   ·exact h.mem p h1
   ·rw[h1];exact⟨hx,ho⟩⟩
theorem TbOk.len{hs:List Str}{ok:Str->Hr->Prop}{tm:Tb}(h:TbOk hs ok tm):tm.length<=hs.length:=by
 have:=zct h.nd (m:=hs) λx hx=>by
  obtain⟨p,hp,e⟩:=List.mem_map.mp hx
  rw[←e];exact(h.mem p hp).1
 rwa[List.length_map] at this
theorem TbOk.look{hs:List Str}{ok:Str->Hr->Prop}{tm:Tb}{x:Str}{r:Hr}(h:TbOk hs ok tm)(e:zt tm x=some r):ok x r:=(h.mem _ (zda e)).2
end RW
namespace K40
open PySem PySem.Spec PyProof.Rows L2
noncomputable def top(i:Nat):Stmt:=PySem.Challenge.pw_restways_k40_whole_newest_count.main.body.getD i (.Pass ⟨0,0,0,0⟩)
noncomputable abbrev zdi:Stmt:=top 2
noncomputable abbrev znb:List Str:=["cond","way","marks","to","word","about"]
noncomputable abbrev zbV:List Str:=["cond","way","marks","to"]
theorem c_holds:FnScope znb zbV (zc zdi):=⟨rfl,rfl,rfl,by decide +kernel,rfl,by decide +kernel,by decide +kernel⟩
noncomputable abbrev zbx:Stmt:=top 3
noncomputable abbrev zi9:List Str:=["conds","way","marks","to","cond"]
noncomputable abbrev za4:List Str:=["conds","way","marks","to"]
theorem c_all_hold:FnScope zi9 za4 (zc zbx):=⟨rfl,rfl,rfl,by decide +kernel,rfl,by decide +kernel,by decide +kernel⟩
noncomputable abbrev zaR:Stmt:=top 5
noncomputable abbrev zhd:List Str:=["town","house"]
noncomputable abbrev zbm:List Str:=["town","house"]
theorem zgW:FnScope zhd zbm (zc zaR):=⟨rfl,rfl,rfl,by decide +kernel,rfl,by decide +kernel,by decide +kernel⟩
noncomputable abbrev zby:Stmt:=top 6
noncomputable abbrev ziM:List Str:=["town","house"]
noncomputable abbrev zb9:List Str:=["town","house"]
theorem zi0:FnScope ziM zb9 (zc zby):=⟨rfl,rfl,rfl,by decide +kernel,rfl,by decide +kernel,by decide +kernel⟩
noncomputable abbrev zc2:Stmt:=top 7
noncomputable abbrev ziC:List Str:=["town","house","ties"]
noncomputable abbrev zcD:List Str:=["town","house"]
theorem c_tied:FnScope ziC zcD (zc zc2):=⟨rfl,rfl,rfl,by decide +kernel,rfl,by decide +kernel,by decide +kernel⟩
noncomputable def zl0:Scope:={kind:= .function,names:=[(".0", .local),("a", .local),("b", .local),("house", .free)],isGenerator:=false,isCoroutine:=false,more:=[]}
theorem o_tied_1:CompOk ziC (zc zc2) ["a","b","house"] [none,none,some 1] zl0:=⟨rfl,by decide +kernel,by decide +kernel,by decide +kernel,by decide +kernel,rfl,by decide +kernel⟩
noncomputable def zlJ:Scope:={kind:= .function,names:=[(".0", .local),("a", .local),("b", .local),("house", .free)],isGenerator:=false,isCoroutine:=false,more:=[]}
theorem o_tied_2:CompOk ziC (zc zc2) ["a","b","house"] [none,none,some 1] zlJ:=⟨rfl,by decide +kernel,by decide +kernel,by decide +kernel,by decide +kernel,rfl,by decide +kernel⟩
noncomputable abbrev z4:Stmt:=top 9
noncomputable abbrev zc5:List Str:=["marks","act","word","mark","others"]
noncomputable abbrev zaP:List Str:=["marks","act"]
theorem c_marks_behind:FnScope zc5 zaP (zc z4):=⟨rfl,rfl,rfl,by decide +kernel,rfl,by decide +kernel,by decide +kernel⟩
noncomputable def zee:Scope:={kind:= .function,names:=[(".0", .local),("one", .local),("mark", .free)],isGenerator:=false,isCoroutine:=false,more:=[]}
theorem o_marks_behind_1:CompOk zc5 (zc z4) ["one","mark"] [none,some 3] zee:=⟨rfl,by decide +kernel,by decide +kernel,by decide +kernel,by decide +kernel,rfl,by decide +kernel⟩
noncomputable abbrev zcy:Stmt:=top 10
noncomputable abbrev zl7:List Str:=["town","way","marks","to","told","conds","act"]
noncomputable abbrev zc6:List Str:=["town","way","marks","to"]
theorem c_handed:FnScope zl7 zc6 (zc zcy):=⟨rfl,rfl,rfl,by decide +kernel,rfl,by decide +kernel,by decide +kernel⟩
noncomputable abbrev zc9:Stmt:=top 12
noncomputable abbrev znj:List Str:=["town","way","marks","conds","told"]
noncomputable abbrev zdf:List Str:=["town","way","marks"]
theorem c_worth:FnScope znj zdf (zc zc9):=⟨rfl,rfl,rfl,by decide +kernel,rfl,by decide +kernel,by decide +kernel⟩
noncomputable abbrev zaW:Stmt:=top 13
noncomputable abbrev zg4:List Str:=["town","way","marks"]
noncomputable abbrev zbt:List Str:=["town","way","marks"]
theorem zgU:FnScope zg4 zbt (zc zaW):=⟨rfl,rfl,rfl,by decide +kernel,rfl,by decide +kernel,by decide +kernel⟩
noncomputable abbrev zaw:Stmt:=top 14
noncomputable abbrev zdR:List Str:=["town","marked","keys","key","marks"]
noncomputable abbrev zbj:List Str:=["town","marked"]
theorem c_most_liked:FnScope zdR zbj (zc zaw):=⟨rfl,rfl,rfl,by decide +kernel,rfl,by decide +kernel,by decide +kernel⟩
noncomputable def zfk:Scope:={kind:= .function,names:=[(".0", .local),("way", .local),("marks", .local),("liking_key", .globalImplicit),("town", .free)],isGenerator:=false,isCoroutine:=false,more:=[]}
theorem o_most_liked_1:CompOk zdR (zc zaw) ["way","marks","town"] [none,none,some 0] zfk:=⟨rfl,by decide +kernel,by decide +kernel,by decide +kernel,by decide +kernel,rfl,by decide +kernel⟩
noncomputable abbrev zZ:Stmt:=zbn (top 17) 0
noncomputable abbrev zd1:List Str:=["self","town","name"]
noncomputable abbrev zan:List Str:=["self","town","name"]
theorem zei:FnScope zd1 zan (zc zZ):=⟨rfl,rfl,rfl,by decide +kernel,rfl,by decide +kernel,by decide +kernel⟩
noncomputable abbrev zbf:Stmt:=zbn (top 17) 1
noncomputable abbrev zhA:List Str:=["self"]
noncomputable abbrev zbK:List Str:=["self"]
theorem zhl:FnScope zhA zbK (zc zbf):=⟨rfl,rfl,rfl,by decide +kernel,rfl,by decide +kernel,by decide +kernel⟩
noncomputable abbrev zaC:Stmt:=zbn (top 17) 2
noncomputable abbrev zfK:List Str:=["self"]
noncomputable abbrev zaZ:List Str:=["self"]
theorem zfY:FnScope zfK zaZ (zc zaC):=⟨rfl,rfl,rfl,by decide +kernel,rfl,by decide +kernel,by decide +kernel⟩
noncomputable abbrev zaG:Stmt:=zbn (top 17) 3
noncomputable abbrev zfZ:List Str:=["self","other"]
noncomputable abbrev zaF:List Str:=["self","other"]
theorem zfR:FnScope zfZ zaF (zc zaG):=⟨rfl,rfl,rfl,by decide +kernel,rfl,by decide +kernel,by decide +kernel⟩
noncomputable abbrev zaE:Stmt:=zbn (top 17) 4
noncomputable abbrev zfM:List Str:=["self"]
noncomputable abbrev za1:List Str:=["self"]
theorem zfT:FnScope zfM za1 (zc zaE):=⟨rfl,rfl,rfl,by decide +kernel,rfl,by decide +kernel,by decide +kernel⟩
noncomputable abbrev zaU:Stmt:=zbn (top 17) 5
noncomputable abbrev zgL:List Str:=["self","letter","one","to","nr","way","marks"]
noncomputable abbrev zbh:List Str:=["self","letter"]
theorem c_House_hear:FnScope zgL zbh (zc zaU):=⟨rfl,rfl,rfl,by decide +kernel,rfl,by decide +kernel,by decide +kernel⟩
noncomputable abbrev zak:Stmt:=zbn (top 17) 6
noncomputable abbrev zff:List Str:=["self"]
noncomputable abbrev zaM:List Str:=["self"]
theorem ze4:FnScope zff zaM (zc zak):=⟨rfl,rfl,rfl,by decide +kernel,rfl,by decide +kernel,by decide +kernel⟩
noncomputable abbrev zU:Stmt:=zbn (top 17) 7
noncomputable abbrev zdL:List Str:=["self","found","nr","way","marks"]
noncomputable abbrev zaf:List Str:=["self"]
theorem c_House_open_ways:FnScope zdL zaf (zc zU):=⟨rfl,rfl,rfl,by decide +kernel,rfl,by decide +kernel,by decide +kernel⟩
noncomputable abbrev zaB:Stmt:=zbn (top 17) 8
noncomputable abbrev zfW:List Str:=["self","going"]
noncomputable abbrev zaA:List Str:=["self","going"]
theorem zfQ:FnScope zfW zaA (zc zaB):=⟨rfl,rfl,rfl,by decide +kernel,rfl,by decide +kernel,by decide +kernel⟩
noncomputable abbrev zaI:Stmt:=zbn (top 17) 9
noncomputable abbrev zfP:List Str:=["self","other","way","marks","told"]
noncomputable abbrev zaX:List Str:=["self","other"]
theorem c_House_offer:FnScope zfP zaX (zc zaI):=⟨rfl,rfl,rfl,by decide +kernel,rfl,by decide +kernel,by decide +kernel⟩
noncomputable abbrev zac:Stmt:=zbn (top 17) 10
noncomputable abbrev zeD:List Str:=["self","found","other","nr","way","marks","offer"]
noncomputable abbrev zaa:List Str:=["self"]
theorem c_House_letters:FnScope zeD zaa (zc zac):=⟨rfl,rfl,rfl,by decide +kernel,rfl,by decide +kernel,by decide +kernel⟩
noncomputable abbrev zbb:Stmt:=top 19
noncomputable abbrev zh0:List Str:=["_law_script","_law_k","_law_cell"]
noncomputable abbrev zbJ:List Str:=["_law_script","_law_k"]
theorem c__law_hand:FnScope zh0 zbJ (zc zbb):=⟨rfl,rfl,rfl,by decide +kernel,rfl,by decide +kernel,by decide +kernel⟩
noncomputable abbrev zbz:Stmt:=top 20
noncomputable abbrev ziv:List Str:=["_law_script","_law_hand_here","_law_digits","_law_far","_law_k","_law_other"]
noncomputable abbrev zcb:List Str:=["_law_script"]
theorem c__law_all:FnScope ziv zcb (zc zbz):=⟨rfl,rfl,rfl,by decide +kernel,rfl,by decide +kernel,by decide +kernel⟩
noncomputable abbrev zbd:Stmt:=top 21
noncomputable abbrev zhx:List Str:=["_law_hand_here","_law_many","_law_digit","_law_turn","_law_mixed","_law_other"]
noncomputable abbrev zE:List Str:=["_law_hand_here","_law_many"]
theorem c__law_take:FnScope zhx zE (zc zbd):=⟨rfl,rfl,rfl,by decide +kernel,rfl,by decide +kernel,by decide +kernel⟩
noncomputable abbrev za9:Stmt:=top 22
noncomputable abbrev zic:List Str:=["_law_hand_here","_law_some"]
noncomputable abbrev zF:List Str:=["_law_hand_here","_law_some"]
theorem zhK:FnScope zic zF (zc za9):=⟨rfl,rfl,rfl,by decide +kernel,rfl,by decide +kernel,by decide +kernel⟩
noncomputable abbrev zav:Stmt:=top 23
noncomputable abbrev zdH:List Str:=["_law_hand_here","_law_many","_law_letters","_law_first","_law_step","_law_names_here","_law_kept","_law_spot","_law_k"]
noncomputable abbrev zbo:List Str:=["_law_hand_here","_law_many"]
theorem c__law_names:FnScope zdH zbo (zc zav):=⟨rfl,rfl,rfl,by decide +kernel,rfl,by decide +kernel,by decide +kernel⟩
noncomputable def zfm:Scope:={kind:= .function,names:=[(".0", .local),("_law_k", .local),("_law_first", .free),("_law_letters", .free),("_law_step", .free)],isGenerator:=false,isCoroutine:=false,more:=[]}
theorem o__law_names_1:CompOk zdH (zc zav) ["_law_k","_law_first","_law_letters","_law_step"] [none,some 3,some 2,some 4] zfm:=⟨rfl,by decide +kernel,by decide +kernel,by decide +kernel,by decide +kernel,rfl,by decide +kernel⟩
noncomputable abbrev zbg:Stmt:=top 24
noncomputable abbrev zhs:List Str:=["_law_hand_here","_law_houses","_law_marks","_law_to","_law_way","_law_cond_here"]
noncomputable abbrev zbO:List Str:=["_law_hand_here","_law_houses","_law_marks","_law_to"]
theorem c__law_cond:FnScope zhs zbO (zc zbg):=⟨rfl,rfl,rfl,by decide +kernel,rfl,by decide +kernel,by decide +kernel⟩
noncomputable abbrev zat:Stmt:=top 25
noncomputable abbrev zdS:List Str:=["_law_hand_here","_law_houses","_law_marks","_law_to","_law_many"]
noncomputable abbrev zaV:List Str:=["_law_hand_here","_law_houses","_law_marks","_law_to"]
theorem c__law_conds:FnScope zdS zaV (zc zat):=⟨rfl,rfl,rfl,by decide +kernel,rfl,by decide +kernel,by decide +kernel⟩
noncomputable def ze5:Scope:={kind:= .function,names:=[(".0", .local),("_law_k", .local),("_law_cond", .globalImplicit),("_law_hand_here", .free),("_law_houses", .free),("_law_marks", .free),("_law_to", .free)],isGenerator:=false,isCoroutine:=false,more:=[]}
theorem o__law_conds_1:CompOk zdS (zc zat) ["_law_k","_law_hand_here","_law_houses","_law_marks","_law_to"] [none,some 0,some 1,some 2,some 3] ze5:=⟨rfl,by decide +kernel,by decide +kernel,by decide +kernel,by decide +kernel,rfl,by decide +kernel⟩
noncomputable abbrev zam:Stmt:=top 26
noncomputable abbrev ze2:List Str:=["_law_hand_here","_law_houses","_law_marks","_law_some","_law_k","_law_number"]
noncomputable abbrev zaN:List Str:=["_law_hand_here","_law_houses","_law_marks"]
theorem c__law_likings:FnScope ze2 zaN (zc zam):=⟨rfl,rfl,rfl,by decide +kernel,rfl,by decide +kernel,by decide +kernel⟩
noncomputable abbrev zaT:Stmt:=top 27
noncomputable abbrev zgQ:List Str:=["_law_hand_here","_law_houses","_law_marks","_law_some","_law_k","_law_act"]
noncomputable abbrev zbi:List Str:=["_law_hand_here","_law_houses","_law_marks"]
theorem c__law_hands:FnScope zgQ zbi (zc zaT):=⟨rfl,rfl,rfl,by decide +kernel,rfl,by decide +kernel,by decide +kernel⟩
noncomputable abbrev zbe:Stmt:=top 28
noncomputable abbrev zhY:List Str:=["_law_hand_here","_law_houses","_law_more","_law_ties_here","_law_k","_law_a","_law_b"]
noncomputable abbrev zbH:List Str:=["_law_hand_here","_law_houses","_law_more"]
theorem c__law_ties:FnScope zhY zbH (zc zbe):=⟨rfl,rfl,rfl,by decide +kernel,rfl,by decide +kernel,by decide +kernel⟩
noncomputable abbrev zaq:Stmt:=top 29
noncomputable abbrev zc1:List Str:=["_law_hand_here","_law_many","_law_names_here","_law_houses","_law_marks","_law_ties_here","_law_goal","_law_rising","_law_likings_here","_law_hands_here"]
noncomputable abbrev zbQ:List Str:=["_law_hand_here"]
theorem c__law_town:FnScope zc1 zbQ (zc zaq):=⟨rfl,rfl,rfl,by decide +kernel,rfl,by decide +kernel,by decide +kernel⟩
noncomputable def zfX:Scope:={kind:= .function,names:=[(".0", .local),("_law_house", .local),("_law_likings", .globalImplicit),("_law_hand_here", .free),("_law_marks", .free),("_law_names_here", .free)],isGenerator:=false,isCoroutine:=false,more:=[]}
theorem o__law_town_1:CompOk zc1 (zc zaq) ["_law_house","_law_hand_here","_law_marks","_law_names_here"] [none,some 0,some 4,some 2] zfX:=⟨rfl,by decide +kernel,by decide +kernel,by decide +kernel,by decide +kernel,rfl,by decide +kernel⟩
noncomputable def zfE:Scope:={kind:= .function,names:=[(".0", .local),("_law_house", .local),("_law_hands", .globalImplicit),("_law_hand_here", .free),("_law_marks", .free),("_law_names_here", .free)],isGenerator:=false,isCoroutine:=false,more:=[]}
theorem o__law_town_2:CompOk zc1 (zc zaq) ["_law_house","_law_hand_here","_law_marks","_law_names_here"] [none,some 0,some 4,some 2] zfE:=⟨rfl,by decide +kernel,by decide +kernel,by decide +kernel,by decide +kernel,rfl,by decide +kernel⟩
noncomputable abbrev zV:Stmt:=top 30
noncomputable abbrev zcM:List Str:=["_law_hand_here","_law_town_here","_law_house","_law_way","_law_some"]
noncomputable abbrev zax:List Str:=["_law_hand_here","_law_town_here","_law_house"]
theorem c__law_real_way:FnScope zcM zax (zc zV):=⟨rfl,rfl,rfl,by decide +kernel,rfl,by decide +kernel,by decide +kernel⟩
noncomputable def zdW:Scope:={kind:= .function,names:=[(".0", .local),("_law_other", .local),("_law_way", .free)],isGenerator:=false,isCoroutine:=false,more:=[]}
theorem o__law_real_way_1:CompOk zcM (zc zV) ["_law_other","_law_way"] [none,some 3] zdW:=⟨rfl,by decide +kernel,by decide +kernel,by decide +kernel,by decide +kernel,rfl,by decide +kernel⟩
noncomputable abbrev zK:Stmt:=top 31
noncomputable abbrev zcd:List Str:=["_law_hand_here","_law_town_here","_law_some","_law_rules","_law_found","_law_k"]
noncomputable abbrev zag:List Str:=["_law_hand_here","_law_town_here"]
theorem c__law_some_marks:FnScope zcd zag (zc zK):=⟨rfl,rfl,rfl,by decide +kernel,rfl,by decide +kernel,by decide +kernel⟩
noncomputable def zdo:Scope:={kind:= .function,names:=[(".0", .local),("_law_rule", .local)],isGenerator:=false,isCoroutine:=false,more:=[]}
theorem o__law_some_marks_1:CompOk zcd (zc zK) ["_law_rule"] [none] zdo:=⟨rfl,by decide +kernel,by decide +kernel,by decide +kernel,by decide +kernel,rfl,by decide +kernel⟩
noncomputable abbrev zaJ:Stmt:=top 32
noncomputable abbrev zfG:List Str:=["_law_hand_here","_law_town_here","_law_name","_law_numbers","_law_one","_law_last","_law_nr","_law_way"]
noncomputable abbrev zaY:List Str:=["_law_hand_here","_law_town_here","_law_name","_law_numbers"]
theorem c__law_letter:FnScope zfG zaY (zc zaJ):=⟨rfl,rfl,rfl,by decide +kernel,rfl,by decide +kernel,by decide +kernel⟩
noncomputable abbrev zY:Stmt:=top 33
noncomputable abbrev zel:List Str:=["_law_letters","_law_found","_law_one","_law_to","_law_nr","_law_way","_law_marks"]
noncomputable abbrev zal:List Str:=["_law_letters"]
theorem c__law_last_told:FnScope zel zal (zc zY):=⟨rfl,rfl,rfl,by decide +kernel,rfl,by decide +kernel,by decide +kernel⟩
noncomputable abbrev zab:Stmt:=top 34
noncomputable abbrev zeB:List Str:=["_law_hand_here","_law_some","_law_left","_law_found"]
noncomputable abbrev zaz:List Str:=["_law_hand_here","_law_some"]
theorem c__law_shuffled:FnScope zeB zaz (zc zab):=⟨rfl,rfl,rfl,by decide +kernel,rfl,by decide +kernel,by decide +kernel⟩
noncomputable abbrev zai:Stmt:=top 35
noncomputable abbrev zdp:List Str:=["_law_letters","_law_found","_law_letter_here"]
noncomputable abbrev za0:List Str:=["_law_letters"]
theorem c__law_newest:FnScope zdp za0 (zc zai):=⟨rfl,rfl,rfl,by decide +kernel,rfl,by decide +kernel,by decide +kernel⟩
noncomputable def zeF:Scope:={kind:= .function,names:=[(".0", .local),("_law_one", .local),("_law_found", .free)],isGenerator:=false,isCoroutine:=false,more:=[]}
theorem o__law_newest_1:CompOk zdp (zc zai) ["_law_one","_law_found"] [none,some 1] zeF:=⟨rfl,by decide +kernel,by decide +kernel,by decide +kernel,by decide +kernel,rfl,by decide +kernel⟩
noncomputable abbrev zN:Stmt:=top 36
noncomputable abbrev zbT:List Str:=["_law_town_here","_law_name","_law_letters","_law_house","_law_told","_law_letter_here","_law_found","_law_last"]
noncomputable abbrev zay:List Str:=["_law_town_here","_law_name","_law_letters"]
theorem c__law_heard_by:FnScope zbT zay (zc zN):=⟨rfl,rfl,rfl,by decide +kernel,rfl,by decide +kernel,by decide +kernel⟩
noncomputable def zdF:Scope:={kind:= .function,names:=[(".0", .local),("_law_one", .local),("_law_found", .free)],isGenerator:=false,isCoroutine:=false,more:=[]}
theorem o__law_heard_by_1:CompOk zbT (zc zN) ["_law_one","_law_found"] [none,some 6] zdF:=⟨rfl,by decide +kernel,by decide +kernel,by decide +kernel,by decide +kernel,rfl,by decide +kernel⟩
noncomputable def zdD:Scope:={kind:= .function,names:=[(".0", .local),("_law_one", .local),("_law_house", .free)],isGenerator:=false,isCoroutine:=false,more:=[]}
theorem o__law_heard_by_2:CompOk zbT (zc zN) ["_law_one","_law_house"] [none,some 3] zdD:=⟨rfl,by decide +kernel,by decide +kernel,by decide +kernel,by decide +kernel,rfl,by decide +kernel⟩
noncomputable abbrev zc4:Stmt:=top 37
noncomputable abbrev zoa:List Str:=["_law_script","_law_hand_here","_law_town_here","_law_name","_law_numbers","_law_letters","_law_k","_law_letter_here","_law_many","_law_few"]
noncomputable abbrev zjC:List Str:=["_law_script"]
theorem c_law:FnScope zoa zjC (zc zc4):=⟨rfl,rfl,rfl,by decide +kernel,rfl,by decide +kernel,by decide +kernel⟩
noncomputable def znP:Scope:={kind:= .function,names:=[(".0", .local),("_law_one", .local),("_law_letter_here", .free)],isGenerator:=false,isCoroutine:=false,more:=[]}
theorem o_law_1:CompOk zoa (zc zc4) ["_law_one","_law_letter_here"] [none,some 7] znP:=⟨rfl,by decide +kernel,by decide +kernel,by decide +kernel,by decide +kernel,rfl,by decide +kernel⟩
set_option genInjectivity false in
set_option genSizeOfSpec false in
set_option genSizeOf false in
structure Ev(K:PySem.W.Frag)(mg:Str->Option Value) where
 c_House:Addr
 k_House:Cls K c_House
 m_House:mg "House"=some (.ref c_House)
 n_House_place:NoAttr K c_House "place"
 n_House_name:NoAttr K c_House "name"
 n_House_hearings:NoAttr K c_House "hearings"
 n_House_tellings:NoAttr K c_House "tellings"
 n_House_going:NoAttr K c_House "going"
 n_House_times:NoAttr K c_House "times"
 a_holds:Addr
 d_holds:FuncData
 holds:RW.AtD K mg "holds" zdi zbV a_holds d_holds
 a_all_hold:Addr
 d_all_hold:FuncData
 all_hold:RW.AtD K mg "all_hold" zbx za4 a_all_hold d_all_hold
 a_likings_of:Addr
 d_likings_of:FuncData
 likings_of:RW.At K mg "likings_of" zaR zbm a_likings_of d_likings_of
 a_hands_of:Addr
 d_hands_of:FuncData
 hands_of:RW.At K mg "hands_of" zby zb9 a_hands_of d_hands_of
 a_tied:Addr
 d_tied:FuncData
 tied:RW.At K mg "tied" zc2 zcD a_tied d_tied
 a_marks_behind:Addr
 d_marks_behind:FuncData
 marks_behind:RW.At K mg "marks_behind" z4 zaP a_marks_behind d_marks_behind
 a_handed:Addr
 d_handed:FuncData
 handed:RW.At K mg "handed" zcy zc6 a_handed d_handed
 a_worth:Addr
 d_worth:FuncData
 worth:RW.At K mg "worth" zc9 zdf a_worth d_worth
 a_liking_key:Addr
 d_liking_key:FuncData
 liking_key:RW.At K mg "liking_key" zaW zbt a_liking_key d_liking_key
 a_most_liked:Addr
 d_most_liked:FuncData
 most_liked:RW.At K mg "most_liked" zaw zbj a_most_liked d_most_liked
 a_House___init__:Addr
 d_House___init__:FuncData
 House___init__:RW.MAt K c_House "__init__" "House.__init__" zZ zan a_House___init__ d_House___init__
 a_House_way:Addr
 d_House_way:FuncData
 House_way:RW.MAt K c_House "way" "House.way" zbf zbK a_House_way d_House_way
 a_House_marks:Addr
 d_House_marks:FuncData
 House_marks:RW.MAt K c_House "marks" "House.marks" zaC zaZ a_House_marks d_House_marks
 a_House_heard:Addr
 d_House_heard:FuncData
 House_heard:RW.MAt K c_House "heard" "House.heard" zaG zaF a_House_heard d_House_heard
 a_House_begin:Addr
 d_House_begin:FuncData
 House_begin:RW.MAt K c_House "begin" "House.begin" zaE za1 a_House_begin d_House_begin
 a_House_hear:Addr
 d_House_hear:FuncData
 House_hear:RW.MAt K c_House "hear" "House.hear" zaU zbh a_House_hear d_House_hear
 a_House_choose:Addr
 d_House_choose:FuncData
 House_choose:RW.MAt K c_House "choose" "House.choose" zak zaM a_House_choose d_House_choose
 a_House_open_ways:Addr
 d_House_open_ways:FuncData
 House_open_ways:RW.MAt K c_House "open_ways" "House.open_ways" zU zaf a_House_open_ways d_House_open_ways
 a_House_go_by:Addr
 d_House_go_by:FuncData
 House_go_by:RW.MAt K c_House "go_by" "House.go_by" zaB zaA a_House_go_by d_House_go_by
 a_House_offer:Addr
 d_House_offer:FuncData
 House_offer:RW.MAt K c_House "offer" "House.offer" zaI zaX a_House_offer d_House_offer
 a_House_letters:Addr
 d_House_letters:FuncData
 House_letters:RW.MAt K c_House "letters" "House.letters" zac zaa a_House_letters d_House_letters
 a__law_hand:Addr
 d__law_hand:FuncData
 _law_hand:RW.At K mg "_law_hand" zbb zbJ a__law_hand d__law_hand
 a__law_all:Addr
 d__law_all:FuncData
 _law_all:RW.At K mg "_law_all" zbz zcb a__law_all d__law_all
 a__law_take:Addr
 d__law_take:FuncData
 _law_take:RW.At K mg "_law_take" zbd zE a__law_take d__law_take
 a__law_pick:Addr
 d__law_pick:FuncData
 _law_pick:RW.At K mg "_law_pick" za9 zF a__law_pick d__law_pick
 a__law_names:Addr
 d__law_names:FuncData
 _law_names:RW.At K mg "_law_names" zav zbo a__law_names d__law_names
 a__law_cond:Addr
 d__law_cond:FuncData
 _law_cond:RW.At K mg "_law_cond" zbg zbO a__law_cond d__law_cond
 a__law_conds:Addr
 d__law_conds:FuncData
 _law_conds:RW.At K mg "_law_conds" zat zaV a__law_conds d__law_conds
 a__law_likings:Addr
 d__law_likings:FuncData
 _law_likings:RW.At K mg "_law_likings" zam zaN a__law_likings d__law_likings
 a__law_hands:Addr
 d__law_hands:FuncData
 _law_hands:RW.At K mg "_law_hands" zaT zbi a__law_hands d__law_hands
 a__law_ties:Addr
 d__law_ties:FuncData
 _law_ties:RW.At K mg "_law_ties" zbe zbH a__law_ties d__law_ties
 a__law_town:Addr
 d__law_town:FuncData
 _law_town:RW.At K mg "_law_town" zaq zbQ a__law_town d__law_town
 a__law_real_way:Addr
 d__law_real_way:FuncData
 _law_real_way:RW.At K mg "_law_real_way" zV zax a__law_real_way d__law_real_way
 a__law_some_marks:Addr
 d__law_some_marks:FuncData
 _law_some_marks:RW.At K mg "_law_some_marks" zK zag a__law_some_marks d__law_some_marks
 a__law_letter:Addr
 d__law_letter:FuncData
 _law_letter:RW.At K mg "_law_letter" zaJ zaY a__law_letter d__law_letter
 a__law_last_told:Addr
 d__law_last_told:FuncData
 _law_last_told:RW.At K mg "_law_last_told" zY zal a__law_last_told d__law_last_told
 a__law_shuffled:Addr
 d__law_shuffled:FuncData
 _law_shuffled:RW.At K mg "_law_shuffled" zab zaz a__law_shuffled d__law_shuffled
 a__law_newest:Addr
 d__law_newest:FuncData
 _law_newest:RW.At K mg "_law_newest" zai za0 a__law_newest d__law_newest
 a__law_heard_by:Addr
 d__law_heard_by:FuncData
 _law_heard_by:RW.At K mg "_law_heard_by" zN zay a__law_heard_by d__law_heard_by
 a_law:Addr
 d_law:FuncData
 law:RW.At K mg "law" zc4 zjC a_law d_law
 mk_House:Mk K c_House a_House___init__
 a_NOTHING:Addr
 e_NOTHING:Addr
 m_NOTHING:mg "NOTHING"=some (.ref a_NOTHING)
 t_NOTHING:∀H,SqT K H a_NOTHING [.int 0, .non, .ref e_NOTHING]
 u_NOTHING:∀H,SqT K H e_NOTHING []
 isinstance:mg "isinstance"=none
 len:mg "len"=none
 int:mg "int"=none
 tuple:mg "tuple"=none
 range:mg "range"=none
 max:mg "max"=none
 min:mg "min"=none
 sorted:mg "sorted"=none
 all:mg "all"=none
 list:mg "list"=none
 str:mg "str"=none
end K40
namespace K40
open PySem PySem.Spec PyProof.Rows L2 RW
local macro_rules | `(tactic|walk_at "cond")=> `(tactic|first|assumption|decide|omega|exact few rfl|exact .inl ⟨by decide,by decide⟩|exact .inr ⟨by decide,by decide⟩|exact .inl ⟨by omega,by omega⟩|exact .inr ⟨by omega,by omega⟩|exact⟨by omega,by omega⟩|exact⟨by assumption,by assumption⟩|exact⟨by decide,by decide,by decide⟩|exact .inr ⟨by split<;>decide,by split<;>decide⟩)
local macro_rules | `(tactic|walk_at "rd")=> `(tactic|first|with_reducible_and_instances refine⟨_,rfl,?_⟩|refine⟨_,rfl,?_⟩|refine⟨_,_,rfl,rfl,?_⟩|refine⟨_,_,_,_,rfl,rfl,SqL.of (by assumption),rfl,?_⟩|refine⟨_,_,_,_,rfl,rfl,(by assumption),rfl,?_⟩|refine .inl ⟨_,rfl,?_⟩|refine .inr ⟨_,rfl,?_⟩|refine .inl ⟨_,_,rfl, .inl (by assumption),?_⟩|refine⟨(by walk_at "cond"),?_⟩)
local macro_rules | `(tactic|walk_at "dsp")=> `(tactic|repeat' (first|exact dsp_str (by decide)|exact zmR|exact dsp_bl|exact znO|exact znI|exact zl4|exact dsp_dnew|exact dsp_disp rfl|exact znN rfl (by assumption)|refine zkK ?_ ?_|refine dsp_tup ?_ ?_|refine dsp_lst' ?_|refine n_cons ?_ ?_|exact n_nil|exact v_c|exact v_var rfl|refine v_tup ?_|refine zk9 ?_ ?_|refine dspl_cat ?_ ?_ ?_|exact dspl_var rfl (by assumption) (by assumption)|exact Nat.le_of_ble_eq_true rfl))
local macro_rules | `(tactic|walk_at "each")=> `(tactic|repeat' (first|exact zis|refine List.forall_mem_append.mpr ⟨?_,?_⟩|refine List.forall_mem_cons.mpr ⟨?_,?_⟩))
section
variable{P:Program}{w:World}{K:PySem.W.Frag}{mg:Str->Option Value}{base:Heap}
noncomputable def zb6:Sp:=λvs H Q _=>∃(a:Addr) (k n:Int),vs=[.ref a, .int k]/\Hand H a n/\n<2^40/\0<k/\k<1073741824/\∀d H',0<=d->d<k->Hand H' a (n+1)->Keep a H H'->Q (.int d) H'
theorem zbE(Y:Ev K mg):FnOk P w K mg base CX0 1 Y.a__law_take Y.d__law_take zE zb6:=by
 refine Y._law_take.fn.okQ c__law_take (λvs H Q E h=>?_) (λcdv A outer s H vs Q E hr h=>?_)
 ·obtain ⟨a,k,n,rfl,_⟩:=h
  rfl
 ·obtain ⟨a,k,n,rfl,⟨x,m,t,hH,m0,m1,t0,t1⟩,hn,k0,k1,q⟩:=h
  refine⟨_,(zf (zaQ (zB zjd (zM ix_list (qv 0) zg) zg) (zf (zw 2 c__law_take.nd (zz zbS (zM ix_list (qv 0) zg) (qv 1)))
   (zf (zcP (zz zgY (zM ix_list (qv 0) zg) (qv 1)) (zin (qv 0) zg zcV))
   (zk (zx (qv 2))))) z8)
   (zf (zcP (zz z7 (zM ix_list (qv 0) zg) zg) (zin (qv 0) zg zcV))
   (zf (zw 3 c__law_take.nd (zM ix_list (qv 0) zg))
   (zf (zw 4 c__law_take.nd (zz zbS (zz za5 (zM ix_list (qv 0) zg) (zz z7 (zz z7 zg (zz za5 (zz za5 zg (qv 3)) (qv 3))) (zz za5 zg (qv 3)))) zg))
   (zf (zw 5 c__law_take.nd (zz z7 (zz z7 (zz zbS (qv 4) zg) (zz za5 (qv 3) zg)) zg))
   (zf (zw 4 c__law_take.nd (zz zbS (zz za5 (qv 4) (qv 5)) zg))
   (zk (zx (zz zbS (zz z7 (zz zgY (qv 4) zg) (zz zgY (qv 4) zg)) (qv 1)))))))))),?_⟩
  repeat walk_at "rd"
  refine zcn (λhx=>?_) (λhx=>?_)
  ·repeat walk_at "rd"
   exact q _ _ (Int.emod_nonneg _ (by omega)) (Int.emod_lt_of_pos _ k0) ⟨_,m,t,zb,m0,m1,t0,by omega⟩ (Keep.upd _ _ _)
  ·refine vr rfl (ixL hH rfl (ex2 _ _ ⟨rfl,rfl,vr rfl (ex4 a _ _ _ ⟨rfl,rfl,hH,rfl,?_⟩)⟩))
   have h2:upd H a (.lst [.int x, .int m, .int (t+1)]) a=some (.lst [.int x, .int m, .int (t+1)]):=zb
   repeat walk_at "rd"
   exact q _ _ (Int.emod_nonneg _ (by omega)) (Int.emod_lt_of_pos _ k0) ⟨_,m,_,zb,m0,m1,by omega,by omega⟩ (Keep.upd _ _ _)
noncomputable def zbs(K:PySem.W.Frag):Sp:=λvs H Q _=>∃(a:Addr) (n:Int),Hand H a n/\n<2^40/\
 ((∃(b:Addr) (xs:List V),vs=[.ref a, .ref b]/\b≠a/\SqL K H b xs/\0<xs.length/\xs.length<1000/\∀v H',v∈xs->Hand H' a (n+1)->Keep a H H'->Q v H')\/
  (∃z:Str,vs=[.ref a, .str z]/\0<z.length/\z.length<1000/\∀c H',c∈z.cps.toList->Hand H' a (n+1)->Keep a H H'->Q (.str (one c)) H'))
theorem zbD(Y:Ev K mg):FnOk P w K mg base CX0 2 Y.a__law_pick Y.d__law_pick zF (zbs K):=by
 have G__law_take:FnOk P w K mg base CX0 1 Y.a__law_take Y.d__law_take zE zb6:=zbE Y
 refine Y._law_pick.fn.okQ zhK (λvs H Q E h=>?_) (λcdv A outer s H vs Q E hr h=>?_)
 ·obtain ⟨a,n,_,_,⟨b,xs,rfl,_⟩|⟨z,rfl,_⟩⟩:=h<;>rfl
 ·obtain ⟨a,n,hH,hn,h⟩:=h
  have hl:∀m:Nat,m<1000->m<=sizeLine:=λm h=>Nat.le_of_lt (zm (Nat.le_of_lt h))
  rcases h with⟨b,xs,rfl,hb,hS,x0,x1,q⟩|⟨z,rfl,z0,z1,q⟩
  ·refine ⟨_,(zk (zx (zM zmq (qv 1) (zj G__law_take (hr.mono (by decide)) Y._law_take.mg Y._law_take.kp Y._law_take.b .nil zo (za (qv 0) (za (zH zaH Y.len zco (za (qv 1) zd)) zd)))))),?_⟩
   refine vr rfl (vr rfl (vr rfl (.inl (ex2 b xs ⟨rfl, .inl hS,ex3 a _ n ⟨rfl,hH,hn,by omega,by omega,λd H' h0 h1 hH' kp=>?_⟩⟩))))
   obtain⟨v,e,hv⟩:=zdc h0 h1
   exact .inl (ex4 b xs d v ⟨rfl,rfl,kp.sqL hb hS,e,q v H' hv hH' kp⟩)
  ·refine ⟨_,(zk (zx (zM zmq (qv 1) (zj G__law_take (hr.mono (by decide)) Y._law_take.mg Y._law_take.kp Y._law_take.b .nil zo (za (qv 0) (za (zH zaH Y.len zco (za (qv 1) zd)) zd)))))),?_⟩
   refine vr rfl (vr rfl (vr rfl (.inr ⟨z,rfl,hl _ z1,ex3 a _ n ⟨rfl,hH,hn,by omega,by omega,λd H' h0 h1 hH' kp=>?_⟩⟩)))
   obtain⟨c,e,hc⟩:=zdc (xs:=z.cps.toList) h0 (by simpa[Str.length] using h1)
   exact .inr (.inr (ex3 z d c ⟨rfl,rfl,hl _ z1,e,q c H' hc hH' kp⟩))
noncomputable def zlr(K:PySem.W.Frag):Sp:=λvs H Q _=>∃(b:Addr) (ns:List Int) (k:Int),vs=[.ref b, .int k]/\SqL K H b (ns.map V.int)/\0<=k/\k<1000/\∀a H',H a=none->Hand H' a 0->Same H H'->Q (.ref a) H'
theorem zmD(Y:Ev K mg):FnOk P w K mg base CX0 1 Y.a__law_hand Y.d__law_hand zbJ (zlr K):=by
 refine Y._law_hand.fn.okQ c__law_hand (λvs H Q E h=>?_) (λcdv A outer s H vs Q E hr h=>?_)
 ·obtain ⟨a,k,n,rfl,_⟩:=h
  rfl
 ·obtain ⟨b,ns,k,rfl,hS,k0,k1,q⟩:=h
  refine⟨_,(zf (zw 2 c__law_hand.nd zg)
   (zf (zaQ (zB zn8 (qv 1) (zH zaH Y.len zco (za (qv 0) zd))) (zk (zw 2 c__law_hand.nd (zM ix_list (qv 0) (qv 1)))) z8)
   (zk (zx (zbL (za (zz za5 (qv 2) (z5 zcv Y.int zeX (za (zdr zom (qv 2) (zz zec zg zg)) zd))) (za (zz z7 (zz z7 (zz zbS (qv 2) zg) (zz za5 zg (qv 1))) zg) (za zg zd)))))))),?_⟩
  refine vr rfl (vr rfl (.inl (ex2 b _ ⟨rfl, .inl hS,ex2 _ _ ⟨rfl,rfl,vr rfl ?_⟩⟩)))
  refine zcn (λhx=>?_) (λhx=>?_)
  ·have hx':k<((ns.map V.int).length:Int):=of_decide_eq_true hx
   obtain⟨v,e,hv⟩:=zdc k0 hx'
   obtain⟨c,_,rfl⟩:=List.mem_map.mp hv
   refine vr rfl (vr rfl (ex4 b _ k _ ⟨rfl,rfl,hS,e,?_⟩))
   repeat walk_at "rd"
   intro p hp
   exact q p _ hp ⟨_,_,_,zb,by omega,by omega,by decide,by decide⟩ (λb' o hb'=>by rw[ze (zh hb' hp)];exact hb')
  ·repeat walk_at "rd"
   intro p hp
   exact q p _ hp ⟨_,_,_,zb,by omega,by omega,by decide,by decide⟩ (λb' o hb'=>by rw[ze (zh hb' hp)];exact hb')
end
section
variable{P:Program}{w:World}{K:PySem.W.Frag}{mg:Str->Option Value}{base:Heap}
noncomputable def zhp:Sp:=λvs H Q _=>∃(a:Addr) (n:Int) (m:Nat),vs=[.ref a, .int m]/\Hand H a n/\n<2^39/\4<=m/\m<=13/\∀(l:Addr) (xs:List Str) (H':Hp),H l=none->H' l=some (.lst (xs.map V.str))->xs.length=m->(∀x∈xs,zi x=true)->xs.Nodup->(∀x∈xs,x≠"nowhere")->Hand H' a (n+4)->Keep a H H'->Q (.ref l) H'
theorem zkk(Y:Ev K mg):FnOk P w K mg base CX0 3 Y.a__law_names Y.d__law_names zbo zhp:=by
 have G__law_take:FnOk P w K mg base CX0 1 Y.a__law_take Y.d__law_take zE zb6:=zbE Y
 have G__law_pick:FnOk P w K mg base CX0 2 Y.a__law_pick Y.d__law_pick zF (zbs K):=zbD Y
 refine Y._law_names.fn.okQ c__law_names (λvs H Q E h=>?_) (λcdv A outer s H vs Q E hr h=>?_)
 ·obtain ⟨a,n,m,rfl,_⟩:=h;rfl
 ·obtain ⟨a,n,m,rfl,hH,hn,m4,m13,q⟩:=h
  refine⟨_,(zf (zcp 2 c__law_names.nd za3)
   (zf (zcp 3 c__law_names.nd (zj G__law_take (hr.mono (by decide)) Y._law_take.mg Y._law_take.kp Y._law_take.b .nil zo (za (qv 0) (za zg zd))))
   (zf (zcp 4 c__law_names.nd (zj G__law_pick (hr.mono (by decide)) Y._law_pick.mg Y._law_pick.kp Y._law_pick.b .nil zo (za (qv 0) (za (zd7 [V.int 1,V.int 3,V.int 5,V.int 7,V.int 9,V.int 11] (by decide +kernel)) zd))))
   (zf (zcx 5 (src:=[none,some 3,some 2,some 4]) o__law_names_1 rfl rfl c__law_names.nd (zc8 Y.range (za (qv 1) zd)) (λ_ _ _ _ _=>(zr 0 o__law_names_1.nd)) (λ_ _ _ _ _=>zew) (λ_ _ _ _ _=>(zz zhw (zM zmm (qc 2) (zz zbS (zz z7 (qc 1) (zz za5 (qc 3) (qv 0))) zg)) (zz z7 zg (zz zbS (zz z7 (zz za5 (qv 0) (qv 0)) (qc 1)) zg)))))
   (zeU (zaQ (zB zaL (zj G__law_take (hr.mono (by decide)) Y._law_take.mg Y._law_take.kp Y._law_take.b .nil zo (za (qv 0) (za zg zd))) zg) (zf (zw 6 c__law_names.nd (zd7 [V.str "goal",V.str "to",V.str "by",V.str "houses",V.str "tie",V.str "like",V.str "hand",V.str "keep",V.str "put",V.str "mark",V.str "long",V.str "from",V.str "strike"] (by decide +kernel)))
   (zf (zw 7 c__law_names.nd (zj G__law_take (hr.mono (by decide)) Y._law_take.mg Y._law_take.kp Y._law_take.b .nil zo (za (qv 0) (za zg zd))))
   (zk (zbw PassesOwn.never rfl (zc8 Y.range (za (zH (zek rfl) Y.min zed (za (qv 1) (za zg zd))) zd)) (zr 8 c__law_names.nd) (zk (zcP (zM ix_list (qv 6) (zz zbS (zz z7 (qv 7) (zz za5 zg (qv 8))) zg)) (zin (qv 5) (qv 8) zcV))))))) z8)
   (zk (zx (qv 5)))))))),?_⟩
  refine vr rfl (ex3 a 26 n ⟨rfl,hH,by omega,by decide,by decide,λf' H1 f0 f26 hH1 k1=>?_⟩)
  obtain⟨f,rfl⟩:∃f:Nat,f'=(f:Int):=⟨f'.toNat,by omega⟩
  refine vr rfl ⟨by decide,λpl hpl=>⟨a,n+1,hH1.new hpl,by omega, .inl (ex2 pl _ ⟨rfl,hH1.ne hpl,SqL.of zb,by decide,by decide,λv H2 hv hH2 k2=>?_⟩)⟩⟩
  obtain⟨st,rfl,st0,st11⟩:∃st:Nat,v= .int (st:Int)/\st∈zl9/\st<=11:=by
   simp only[List.mem_cons,List.not_mem_nil,or_false] at hv
   rcases hv with rfl|rfl|rfl|rfl|rfl|rfl
   ·exact ⟨1,rfl,by decide,by decide⟩
   ·exact ⟨3,rfl,by decide,by decide⟩
   ·exact ⟨5,rfl,by decide,by decide⟩
   ·exact ⟨7,rfl,by decide,by decide⟩
   ·exact ⟨9,rfl,by decide,by decide⟩
   ·exact ⟨11,rfl,by decide,by decide⟩
  have kp2:Keep a H H2:=k1.trans ((Keep.new hpl).trans k2)
  refine vr rfl ⟨m,rfl,by omega,by omega,?_⟩
  refine zbv zcl (λl i ys σ' H'=>(∃o,σ'=[o,some (.int (f:Int)),some (.str lettersS),some (.int (st:Int))])/\ys=((List.range i).map (nmS f st)).map V.str/\Hand H' a (n+1+1)/\Keep a H2 H') ?_ (λ_ _ _ _ _ _ _=>trivial) ?_ ?_
  ·exact λl hl=>⟨⟨_,rfl⟩,rfl,hH2.new hl,Keep.new hl⟩
  ·rintro l i y ys σ' H' hl hi rfl ⟨⟨o,rfl⟩,rfl,hH',k'⟩ hl'
   have hi13:i<13:=by have:i<m:=by omega
                      omega
   have hr26:(f+st*i)%26<26:=Nat.mod_lt _ (by decide)
   have ei:((f:Int)+(st:Int)*(0+(i:Int)))%26=(((f+st*i)%26:Nat):Int):=by rw[Int.zero_add];push_cast;rfl
   have ec:atI lettersS.cps.toList (((f:Int)+(st:Int)*(0+(i:Int)))%26)=some (97+(f+st*i)%26):=by
    rw[ei];exact zI (ze0 _ (List.mem_range.mpr hr26))
   have en:(1+((0+(i:Int))*(0+(i:Int))+(f:Int))%8)=((1+(i*i+f)%8:Nat):Int):=by rw[Int.zero_add];push_cast;rfl
   have g8:(i*i+f)%8<8:=Nat.mod_lt _ (by decide)
   refine⟨_,rfl,_,rfl,_,rfl,_,rfl,_,_,rfl,rfl, .inl ⟨by omega,by omega⟩,_,_,rfl,rfl,_,_,rfl,rfl,(by decide:(0:Int)<26),lettersS,_,_,rfl,rfl,by rw[zii];decide,ec,_,rfl,_,rfl,_,_,rfl,rfl, .inl ⟨by omega,by omega⟩,_,rfl,_,_,rfl,rfl,_,_,rfl,rfl,(by decide:(0:Int)<8),_,_,rfl,rfl,one (97+(f+st*i)%26),_,rfl,rfl,by rw[en];omega,by rw[en];omega,by rw[zjn];decide,by rw[zjn];decide,?_⟩
   have nl:=hH2.ne hl
   refine⟨hl',?_,⟨_,rfl⟩,?_,hH'.updNe nl,k'.updNew hl⟩
   ·rw[List.length_map,List.length_map,List.length_range];exact zm (by omega)
   ·rw[en,Int.toNat_natCast,List.range_succ,List.map_append,List.map_append];rfl
  ·rintro l ys σ' H3 hl ⟨⟨o,rfl⟩,rfl,hH3,k3⟩ hl'
   have nl:=hH2.ne hl
   rw[Int.toNat_natCast] at hl'
   have e0:(List.range m).map (nmS f st)=(List.range m).map (zbk f st 0 0):=by
    apply List.map_congr_left
    intro k _
    unfold zbk
    rw[if_neg (by omega)]
   have hln:H l=none:=by
    cases e:H l with
    |none=>rfl
    |some o=>exact absurd (kp2 l o nl e) (by rw[hl];exact λz=>nomatch z)
   refine⟨λσ' H'=>(∃o6 o7 o8,σ'=[some (.ref a),some (.int m),some (.str lettersS),some (.int (f:Int)),some (.int (st:Int)),some (.ref l),o6,o7,o8])/\(∃sp j:Nat,H' l=some (.lst (((List.range m).map (zbk f st sp j)).map V.str))/\sp<13/\j<=4)/\Hand H' a (n+4)/\Keep a H H',?_,?_⟩
   ·refine vr rfl ⟨a,6,n+1+1,rfl,hH3,by omega,by decide,by decide,λd H4 d0 d6 hH4 k4=>⟨rfl,vr rfl (zcn (λ_=>?_) (λ_=>?_))⟩⟩
    ·have hl4:=k4 _ _ nl hl'
     have kp4:Keep a H H4:=(kp2.trans k3).trans k4
     refine⟨by decide,λpk hpk=>?_⟩
     have npl:pk≠l:=λz=>by rw[z,hl4] at hpk;cases hpk
     have npa:=hH4.ne hpk
     refine vr rfl ⟨a,13,n+1+1+1,rfl,hH4.new hpk,by omega,by decide,by decide,λsp' H5 sp0 sp13 hH5 k5=>?_⟩
     obtain⟨sp,rfl⟩:∃f:Nat,sp'=(f:Int):=⟨sp'.toNat,by omega⟩
     refine vr rfl (ex2 _ _ ⟨rfl,vr rfl ⟨?_,?_,?_⟩⟩)
     ·split<;>omega
     ·split<;>omega
     have e4:(if(4:Int)<(m:Int)then(4:Int)else(m:Int)).toNat=4:=by split<;>omega
     rw[e4]
     refine zaK zcl (λi σ' H'=>(∃o8,σ'=[some (.ref a),some (.int m),some (.str lettersS),some (.int (f:Int)),some (.int (st:Int)),some (.ref l),some (.ref pk),some (.int (sp:Int)),o8])/\H' l=some (.lst (((List.range m).map (zbk f st sp i)).map V.str))/\Hand H' a (n+4)/\Keep a H H'/\H' pk=some (.lst (keptL.map V.str))) ?_ (λ_ _ _ _=>trivial) ?_ ?_
     ·refine ⟨⟨_,rfl⟩,?_,hH5.mono (by omega),kp4.trans ((Keep.new hpk).trans k5),k5 _ _ npa zb⟩
      have e0':(List.range m).map (nmS f st)=(List.range m).map (zbk f st sp 0):=by
       apply List.map_congr_left
       intro k _
       unfold zbk
       rw[if_neg (by omega)]
      rw[←e0']
      exact k5 _ _ nl (by rw[ze (Ne.symm npl)];exact hl4)
     ·rintro i y σ' H6 hi4 rfl ⟨⟨o8,rfl⟩,hz,hH6,k6,hp6⟩
      have ek:((sp:Int)+3*(0+(i:Int)))%13=(((sp+3*i)%13:Nat):Int):=by rw[Int.zero_add];push_cast;rfl
      have ev:atI (keptL.map V.str) (((sp:Int)+3*(0+(i:Int)))%13)=some (.str (kwS sp i)):=by
       rw[ek];exact zI (by rw[List.getElem?_map,znz];rfl)
      have hix:ixN (((List.range m).map (zbk f st sp i)).map V.str).length (0+(i:Int))=some i:=by
       unfold ixN
       rw[if_pos (by omega),if_pos (by rw[List.length_map,List.length_map,List.length_range];omega)]
       congr 1
       omega
      refine vr rfl (vr rfl (vr rfl (ex2 _ _ ⟨rfl,rfl, .inl ⟨by decide,by decide⟩,ex2 _ _ ⟨rfl,rfl,ex2 _ _ ⟨rfl,rfl,(by decide:(0:Int)<13),ixL hp6 ev (vr rfl (vr rfl (ex4 l _ _ i ⟨rfl,rfl,hz,hix,?_⟩)))⟩⟩⟩)))
      refine⟨⟨_,rfl⟩,?_,hH6.updNe nl,k6.updNew hln,by rw[ze npl];exact hp6⟩
      rw[zb,←List.map_set,zkS (by omega)]
     ·rintro σ' H6 ⟨⟨o8,rfl⟩,hz,hH6,k6,_⟩
      exact⟨(ex3 _ _ _ rfl),⟨sp,4,hz,by omega,by decide⟩,hH6,k6⟩
    ·rw[e0] at hl'
     exact⟨(ex3 _ _ _ rfl),⟨0,0,k4 _ _ nl hl',by decide,by decide⟩,hH4.mono (by omega),(kp2.trans k3).trans k4⟩
   ·rintro σ' H' ⟨⟨o6,o7,o8,rfl⟩,⟨sp,j,hz,hsp,hj⟩,hH',k'⟩
    refine vr rfl (q l _ H' hln hz (by rw[List.length_map,List.length_range]) (λx hx=>?_) (zhm (by omega) st0 hsp hj m13) (λx hx=>?_) hH' k')
    ·obtain ⟨k,_,rfl⟩:=List.mem_map.mp hx
     exact znK _ _ _ _ _
    ·obtain ⟨k,_,rfl⟩:=List.mem_map.mp hx
     exact zke _ _ _ _ _
end
section
variable{P:Program}{w:World}{K:PySem.W.Frag}{mg:Str->Option Value}{base:Heap}
def NL(O:List Str)(H:Hp)(l:Addr):Prop:=∃xs:List Str,H l=some (.lst (xs.map V.str))/\0<xs.length/\xs.length<=100/\∀x∈xs,zi x=true/\x∈O
theorem NL.keep{O:List Str}{H H':Hp}{a l:Addr}(h:NL O H l)(k:Keep a H H')(n:l≠a):NL O H' l:=let⟨xs,e,r⟩:=h;⟨xs,k _ _ n e,r⟩
theorem NL.same{O:List Str}{H H':Hp}{l:Addr}(h:NL O H l)(k:Same H H'):NL O H' l:=let⟨xs,e,r⟩:=h;⟨xs,k _ _ e,r⟩
theorem zcr{O:List Str}{H:Hp}{a l:Addr}{n:Int}{Q:VK}(hH:Hand H a n)(hn:n<2^40)(hl:NL O H l)(hla:l≠a)(q:∀x H',(zi x=true/\x∈O)->Hand H' a (n+1)->Keep a H H'->Q (.str x) H'):zbs K [.ref a, .ref l] H Q E0:=by
 obtain⟨xs,e,x0,x1,hx⟩:=hl
 refine⟨a,n,hH,hn, .inl (ex2 l _ ⟨rfl,hla,SqL.of e,by rw[List.length_map];exact x0,by rw[List.length_map];omega,λv H' hv hH' k'=>?_⟩)⟩
 obtain⟨x,hxx,rfl⟩:=List.mem_map.mp hv
 exact q x H' (hx x hxx) hH' k'
theorem zas{x:Str}(h:zi x=true):x.length<=1000:=by
 unfold zi at h
 simp only[Bool.and_eq_true,decide_eq_true_eq] at h
 omega
theorem zdu{y x:Str}(hy:y∈namingL)(hx:zi x=true):zC (.tup [.str y, .str x])=true:=by
 have h1:¬y="long":=by
  intro z
  subst z
  revert hy
  decide +kernel
 have h2:(namingL.any λz=>decide (z=y))=true:=List.any_eq_true.mpr ⟨y,hy,decide_eq_true rfl⟩
 rw[zdQ,if_neg h1,h2,zh3,hx];rfl
theorem ziQ{d:D}(h:zC d=true):zJ d=true:=by
 obtain⟨x,e,rfl⟩:=zca d h
 by_cases hx:x="not"
 ·subst hx;rw[zdl] at h;cases h
 ·rw[zdV,if_neg hx];exact h
theorem ziW{d:D}(h:zC d=true)(ha:zev d=false):zdP d=false:=by
 obtain⟨x,e,rfl⟩:=zca d h
 by_cases hx:x="not"
 ·subst hx;rw[zdl] at h;cases h
 ·show (if x="not"then zev e else decide (x="to"))=false
  rw[if_neg hx];exact ha
noncomputable def zk3:Sp:=λvs H Q _=>∃(a h m:Addr) (n:Int) (to:Bool) (O:List Str),vs=[.ref a, .ref h, .ref m, .bl to]/\Hand H a n/\n<2^39/\NL O H h/\NL O H m/\h≠a/\m≠a/\∀v d H',Rep H' v d->(zJ d=true/\zb2 O d=true)->(to=false->zdP d=false)->Hand H' a (n+4)->Keep a H H'->Q v H'
theorem zmG(Y:Ev K mg):FnOk P w K mg base CX0 3 Y.a__law_cond Y.d__law_cond zbO zk3:=by
 have G__law_take:FnOk P w K mg base CX0 1 Y.a__law_take Y.d__law_take zE zb6:=zbE Y
 have G__law_pick:FnOk P w K mg base CX0 2 Y.a__law_pick Y.d__law_pick zF (zbs K):=zbD Y
 refine Y._law_cond.fn.okQ c__law_cond (λvs H Q E h=>?_) (λcdv A outer s H vs Q E hr h=>?_)
 ·obtain ⟨a,h,m,n,to,O,rfl,_⟩:=h;rfl
 ·obtain ⟨a,h,m,n,to,O,rfl,hH,hn,hh,hm,nh,nm,q⟩:=h
  refine⟨_,(zf (zw 4 c__law_cond.nd (zj G__law_take (hr.mono (by decide)) Y._law_take.mg Y._law_take.kp Y._law_take.b .nil zo (za (qv 0) (za (zz z7 zg (z5 zcv Y.int zeX (za (qv 3) zd))) zd))))
   (zf (zw 5 c__law_cond.nd (zD (za za3 (za (zj G__law_pick (hr.mono (by decide)) Y._law_pick.mg Y._law_pick.kp Y._law_pick.b .nil zo (za (qv 0) (za (qv 1) zd))) zd))))
   (zeU (zaQ (t_w (znf (zB zaL (qv 4) zg) (zji (zB zaL (qv 4) zg)))) (zk (zw 5 c__law_cond.nd (zD (za za3 (za (zj G__law_pick (hr.mono (by decide)) Y._law_pick.mg Y._law_pick.kp Y._law_pick.b .nil zo (za (qv 0) (za (qv 1) zd))) zd))))) (zk (zaQ (zB zaL (qv 4) zg) (zk (zw 5 c__law_cond.nd (zD (za za3 (za (zj G__law_pick (hr.mono (by decide)) Y._law_pick.mg Y._law_pick.kp Y._law_pick.b .nil zo (za (qv 0) (za (zd7 [V.int 0,V.int 1,V.int 2,V.int 3,V.int 4,V.int 99] (by decide +kernel)) zd))) zd))))) (zk (zaQ (zB zaL (qv 4) zg) (zk (zw 5 c__law_cond.nd (zD (za za3 (za (zj G__law_pick (hr.mono (by decide)) Y._law_pick.mg Y._law_pick.kp Y._law_pick.b .nil zo (za (qv 0) (za (qv 2) zd))) zd))))) (zk (zaQ (zB zaL (qv 4) zg) (zk (zw 5 c__law_cond.nd (zD (za za3 (za (zj G__law_pick (hr.mono (by decide)) Y._law_pick.mg Y._law_pick.kp Y._law_pick.b .nil zo (za (qv 0) (za (qv 1) zd))) zd))))) z8)))))))
   (zeU (zaQ (zB zaL (zj G__law_take (hr.mono (by decide)) Y._law_take.mg Y._law_take.kp Y._law_take.b .nil zo (za (qv 0) (za zg zd))) zg) (zk (zw 5 c__law_cond.nd (zD (za za3 (za (qv 5) zd))))) z8)
   (zk (zx (qv 5))))))),?_⟩
  refine vr rfl (vr rfl (.inr ⟨to,rfl,ex2 _ _ ⟨rfl,rfl,ex3 a _ n ⟨rfl,hH,by omega,by split<;>omega,by split<;>omega,λt H1 t0 t5 hH1 k1=>?_⟩⟩⟩))
  refine vr rfl (vr rfl (zcr hH1 (by omega) (hh.keep k1 nh) nh λx H2 hx hH2 k2=>⟨few rfl,λp2 hp2=>?_⟩))
  have mk2:∀{H0:Hp} {p:Addr} {y x:Str},y.length<=1000->(zi x=true/\x∈O)->Rep (upd H0 p (.tup [.str y, .str x])) (.ref p) (.tup [.str y, .str x]):=λhy hx=> .mk2 zb (.str _ hy) (.str _ (zas hx.1))
  have hh2:NL O (upd H2 p2 (.tup [.str "by", .str x])) h:=((hh.keep k1 nh).keep k2 nh).same (Same.new hp2)
  have hm2:NL O (upd H2 p2 (.tup [.str "by", .str x])) m:=((hm.keep k1 nm).keep k2 nm).same (Same.new hp2)
  have hH2':=hH2.new (o:= .tup [.str "by", .str x]) hp2
  have kp2:Keep a H (upd H2 p2 (.tup [.str "by", .str x])):=(k1.trans k2).trans (Keep.new hp2)
  refine⟨λσ' H'=>∃v d,σ'=[some (.ref a),some (.ref h),some (.ref m),some (.bl to),some (.int t),some v]/\Rep H' v d/\(zC d=true/\z9 O d=true)/\(to=false->zev d=false)/\Hand H' a (n+3)/\Keep a H H',?_,?_⟩
  ·have ap:∀{y x:Str},¬y="to"->zev (.tup [.str y, .str x])=false:=λh=>decide_eq_false h
   have br:∀{y:Str},y.length<=1000->y∈namingL->¬y="to"->∀(l:Addr),l≠a->NL O (upd H2 p2 (.tup [.str "by", .str x])) l->∀R:V->Hp->Prop,(∀v d H',Rep H' v d->(zC d=true/\z9 O d=true)->(to=false->zev d=false)->Hand H' a (n+3)->Keep a H H'->R v H')->
    zbs K [.ref a, .ref l] (upd H2 p2 (.tup [.str "by", .str x])) (λv H3=> [V.str y,v].length<=sizeLine/\∀p,H3 p=none->R (.ref p) (upd H3 p (.tup [V.str y,v]))) E0:=by
    intro y hy hyn hyt l nl hl R hR
    refine zcr hH2' (by omega) hl nl λx3 H3 hx3 hH3 k3=>⟨few rfl,λp3 hp3=>?_⟩
    exact hR _ _ _ (mk2 hy hx3) ⟨zdu hyn hx3.1,zbP hx3.2⟩ (λ_=>ap hyt) ((hH3.new hp3).mono (by omega)) ((kp2.trans k3).trans (Keep.new hp3))
   have fin:∀v d H',Rep H' v d->(zC d=true/\z9 O d=true)->(to=false->zev d=false)->Hand H' a (n+3)->Keep a H H'->(λ(v:V) (H':Hp)=>∃v0 d,[some (V.ref a),some (.ref h),some (.ref m),some (.bl to),some (.int t),some v]=[some (.ref a),some (.ref h),some (.ref m),some (.bl to),some (.int t),some v0]/\Rep H' v0 d/\(zC d=true/\z9 O d=true)/\(to=false->zev d=false)/\Hand H' a (n+3)/\Keep a H H') v H':=
    λv d H' h1 h2 h3 h4 h5=>⟨v,d,rfl,h1,h2,h3,h4,h5⟩
   refine vr rfl ⟨rfl,vr rfl (zcn (λ_=>?_) (λ_=>(vr rfl ⟨rfl,vr rfl (zcn (λ_=>?_) (λ_=>?_))⟩)))⟩
   ·exact vr rfl (vr rfl (br (by decide) (by decide) (by decide +kernel) h nh hh2 _ fin))
   ·exact vr rfl (vr rfl (br (by decide) (by decide) (by decide +kernel) h nh hh2 _ fin))
   refine vr rfl ⟨rfl,vr rfl (zcn (λ_=>?_) (λ_=>(vr rfl ⟨rfl,vr rfl (zcn (λ_=>?_) (λ_=>(vr rfl ⟨rfl,vr rfl (zcn (λh5=>?_) (λ_=>?_))⟩)))⟩)))⟩
   ·refine vr rfl ⟨by decide,λpl hpl=>⟨a,n+2,(hH2'.mono (by omega)).new hpl,by omega, .inl (ex2 pl _ ⟨rfl,hH2'.ne hpl,SqL.of zb,by decide,by decide,λv H3 hv hH3 k3=>⟨few rfl,λp3 hp3=>?_⟩⟩)⟩⟩
    have hk:∃j:Int,v= .int j/\0<=j/\j<=99:=by
     simp only[List.mem_cons,List.not_mem_nil,or_false] at hv
     rcases hv with rfl|rfl|rfl|rfl|rfl|rfl<;>exact ⟨_,rfl,by decide,by decide⟩
    obtain⟨j,rfl,j0,j9⟩:=hk
    refine fin _ (.tup [.str "long", .int j]) _ (.mk2 zb (.str _ (by decide)) (.int _)) ?_ (λ_=>(by decide +kernel:decide (("long":Str)="to")=false)) ((hH3.new hp3).mono (by omega)) ((kp2.trans ((Keep.new hpl).trans k3)).trans (Keep.new hp3))
    refine⟨?_,rfl⟩
    rw[zdQ,if_pos rfl]
    show(decide (0<=j)&&decide (j<=99))=true
    rw[decide_eq_true j0,decide_eq_true j9];rfl
   ·exact vr rfl (vr rfl (br (by decide) (by decide) (by decide +kernel) m nm hm2 _ fin))
   ·refine vr rfl (vr rfl (zcr hH2' (by omega) hh2 nh λx3 H3 hx3 hH3 k3=>⟨few rfl,λp3 hp3=>?_⟩))
    refine fin _ _ _ (mk2 (by decide) hx3) ⟨zdu (by decide) hx3.1,zbP hx3.2⟩ (λz=>?_) ((hH3.new hp3).mono (by omega)) ((kp2.trans k3).trans (Keep.new hp3))
    subst z
    have e5:t=5:=V.int.inj (of_decide_eq_true h5)
    simp at t5
    omega
   ·exact fin _ _ _ (mk2 (by decide) hx) ⟨zdu (by decide) hx.1,zbP hx.2⟩ (λ_=>ap (by decide +kernel)) (hH2'.mono (by omega)) kp2
  ·rintro σ' H3 ⟨v,d,rfl,hv,hd,hto,hH3,k3⟩
   refine⟨λσ' H'=>∃v d,σ'=[some (.ref a),some (.ref h),some (.ref m),some (.bl to),some (.int t),some v]/\Rep H' v d/\(zJ d=true/\zb2 O d=true)/\(to=false->zdP d=false)/\Hand H' a (n+4)/\Keep a H H',?_,?_⟩
   ·refine vr rfl (ex3 a 4 (n+3) ⟨rfl,hH3,by omega,by decide,by decide,λd4 H4 _ _ hH4 k4=>⟨rfl,vr rfl (zcn (λ_=>?_) (λ_=>?_))⟩⟩)
    ·have hv4:=hv.mono (Mono.keep k4 hH3 hH4)
     refine vr rfl ⟨few rfl,λp5 hp5=>⟨_, .tup [.str "not",d],rfl, .mk2 zb (.str _ (by decide)) (hv4.mono (.new hp5)),?_,?_,(hH4.new hp5).mono (by omega),(k3.trans k4).trans (Keep.new hp5)⟩⟩
     ·exact ⟨by rw[zdV,if_pos rfl];exact hd.1,ziE hd.2⟩
     ·exact λz=>hto z
    ·refine ex2 _ d ⟨rfl,hv.mono (Mono.keep k4 hH3 hH4),⟨ziQ hd.1,zkF hd.1 hd.2⟩,λz=>ziW hd.1 (hto z),hH4.mono (by omega),k3.trans k4⟩
   ·rintro σ' H4 ⟨v,d,rfl,hv,hd,hto,hH4,k4⟩
    exact vr rfl (q v d H4 hv hd hto hH4 k4)
end
section
variable{P:Program}{w:World}{K:PySem.W.Frag}{mg:Str->Option Value}{base:Heap}
theorem zib{ds:List D}(hl:ds.length<=4)(h:∀d∈ds,zJ d=true):zaD (.tup ds)=true:=by
 rw[zhH,decide_eq_true hl,List.all_eq_true.mpr h];rfl
theorem zfz{α:Type}{P:α->Prop}{ds:List α}(h:∀(i:Nat) (d:α),ds[i]?=some d->P d):∀d∈ds,P d:=λd hd=>by
 obtain⟨i,hi,e⟩:=List.getElem_of_mem hd
 exact h i d (by rw[List.getElem?_eq_getElem hi,e])
noncomputable def zgX:Sp:=λvs H Q _=>∃(a h m:Addr) (n:Int) (to:Bool) (O:List Str),vs=[.ref a, .ref h, .ref m, .bl to]/\Hand H a n/\n<2^38/\NL O H h/\NL O H m/\h≠a/\m≠a/\∀v ds H',Rep H' v (.tup ds)->ds.length<=4->(∀d∈ds,zJ d=true)->(∀d∈ds,zb2 O d=true)->(to=false->∀d∈ds,zdP d=false)->Hand H' a (n+17)->Keep a H H'->Q v H'
theorem zhy(Y:Ev K mg):FnOk P w K mg base CX0 4 Y.a__law_conds Y.d__law_conds zaV zgX:=by
 have G__law_pick:FnOk P w K mg base CX0 2 Y.a__law_pick Y.d__law_pick zF (zbs K):=zbD Y
 have G__law_cond:FnOk P w K mg base CX0 3 Y.a__law_cond Y.d__law_cond zbO zk3:=zmG Y
 refine Y._law_conds.fn.okQ c__law_conds (λvs H Q E h=>?_) (λcdv A outer s H vs Q E hr h=>?_)
 ·obtain ⟨a,h,m,n,to,O,rfl,_⟩:=h;rfl
 ·obtain ⟨a,h,m,n,to,O,rfl,hH,hn,hh,hm,nh,nm,q⟩:=h
  refine⟨_,(zf (zw 4 c__law_conds.nd (zj G__law_pick (hr.mono (by decide)) Y._law_pick.mg Y._law_pick.kp Y._law_pick.b .nil zo (za (qc 0) (za (zd7 [V.int 1,V.int 1,V.int 1,V.int 2,V.int 0,V.int 4] (by decide +kernel)) zd))))
   (zk (zx (z5 zO Y.tuple zbq (za (zcI (src:=[none,some 0,some 1,some 2,some 3]) o__law_conds_1 rfl rfl (zc8 Y.range (za (qv 4) zd)) (λ_ _ _ _ _=>(zr 0 o__law_conds_1.nd)) (λ_ _ _ _ _=>zew) (λ_ _ _ _ _=>(zj G__law_cond (hr.mono (by decide)) Y._law_cond.mg Y._law_cond.kp Y._law_cond.b .nil zo (za (qc 1) (za (qc 2) (za (qc 3) (za (qc 4) zd))))))) zd))))),?_⟩
  refine vr rfl ⟨by decide,λpl hpl=>⟨a,n,hH.new hpl,by omega, .inl (ex2 pl _ ⟨rfl,hH.ne hpl,SqL.of zb,by decide,by decide,λv H1 hv hH1 k1=>?_⟩)⟩⟩
  obtain⟨c,rfl,c4⟩:∃c:Nat,v= .int (c:Int)/\c<=4:=by
   simp only[List.mem_cons,List.not_mem_nil,or_false] at hv
   rcases hv with rfl|rfl|rfl|rfl|rfl|rfl
   ·exact ⟨1,rfl,by decide⟩
   ·exact ⟨1,rfl,by decide⟩
   ·exact ⟨1,rfl,by decide⟩
   ·exact ⟨2,rfl,by decide⟩
   ·exact ⟨0,rfl,by decide⟩
   ·exact ⟨4,rfl,by decide⟩
  have kp1:Keep a H H1:=(Keep.new hpl).trans k1
  have hh1:=(hh.same (Same.new (o:= .lst [V.int 1,V.int 1,V.int 1,V.int 2,V.int 0,V.int 4]) hpl)).keep k1 nh
  have hm1:=(hm.same (Same.new (o:= .lst [V.int 1,V.int 1,V.int 1,V.int 2,V.int 0,V.int 4]) hpl)).keep k1 nm
  refine vr rfl ⟨c,rfl,by omega,by omega,?_⟩
  rw[Int.toNat_natCast]
  refine ziG (a:=a) (m:=n+1) (c:=4) (Pd:=λ_ d=>(zJ d=true/\zb2 O d=true)/\(to=false->zdP d=false)) (σr:=[some (.ref a),some (.ref h),some (.ref m),some (.bl to)]) rfl hH1 (by omega) (by decide) (λj H2 Q1 hj hH2 k2 q1=>?_) (λl vs ds H2 hl hl2 r2 hds pd hH2 k2=>?_)
  ·exact vr rfl (vr rfl (vr rfl (vr rfl (ex4 a h m _ (ex2 to O ⟨rfl,hH2,by omega,hh1.keep k2 nh,hm1.keep k2 nm,nh,nm,λv d H3 rv hc ht hH3 k3=>q1 v d H3 rv ⟨hc,ht⟩ hH3 k3⟩)))))
  ·refine ex2 l vs ⟨rfl, .inl ⟨SqL.of hl2,λp hp=>?_⟩⟩
   have pd':=zfz (P:=λd=>(zJ d=true/\zb2 O d=true)/\(to=false->zdP d=false)) pd
   exact q _ ds _ (.mkL zb (by omega) (r2.mono (.new hp))) (by omega) (λd hd=>(pd' d hd).1.1) (λd hd=>(pd' d hd).1.2) (λz d hd=>(pd' d hd).2 z) ((hH2.new hp).mono (by omega)) ((kp1.trans k2).trans (Keep.new hp))
def zof(g:D->Bool)(H':Hp)(ls:Addr)(i:Nat):Prop:=∃(zs:List V) (ds:List D),H' ls=some (.lst zs)/\RepL H' zs ds/\ds.length=i/\∀d∈ds,g d=true
noncomputable def zeP(g:List Str->D->Bool):Sp:=λvs H Q _=>∃(a h m:Addr) (n:Int) (O:List Str),vs=[.ref a, .ref h, .ref m]/\Hand H a n/\n<2^37/\NL O H h/\NL O H m/\h≠a/\m≠a/\∀v ds H',Rep H' v (.tup ds)->ds.length<=12->(∀d∈ds,g O d=true)->Hand H' a (n+400)->Keep a H H'->Q v H'
theorem zkD{ds:List D}{x:D}(hl:ds.length<=4)(h:∀d∈ds,zJ d=true)(ha:∀d∈ds,zdP d=false)(hx:zbN x=true):zL (.tup [.tup ds,x])=true:=by
 rw[zky,zib hl h,hx]
 have:zdM (.tup ds)=false:=by
  show ds.any zdP=false
  rw[List.any_eq_false]
  exact λd hd z=>by rw[ha d hd] at z;cases z
 rw[this];rfl
theorem zix(Y:Ev K mg):FnOk P w K mg base CX0 5 Y.a__law_likings Y.d__law_likings zaN (zeP zg7):=by
 have G__law_take:FnOk P w K mg base CX0 1 Y.a__law_take Y.d__law_take zE zb6:=zbE Y
 have G__law_pick:FnOk P w K mg base CX0 2 Y.a__law_pick Y.d__law_pick zF (zbs K):=zbD Y
 have G__law_conds:FnOk P w K mg base CX0 4 Y.a__law_conds Y.d__law_conds zaV zgX:=zhy Y
 refine Y._law_likings.fn.okQ c__law_likings (λvs H Q E h=>?_) (λcdv A outer s H vs Q E hr h=>?_)
 ·obtain ⟨a,h,m,n,O,rfl,_⟩:=h;rfl
 ·obtain ⟨a,h,m,n,O,rfl,hH,hn,hh,hm,nh,nm,q⟩:=h
  refine⟨_,(zf (zw 3 c__law_likings.nd (zbL zd))
   (zf (zbw PassesOwn.never rfl (zc8 Y.range (za (zz z7 (zj G__law_take (hr.mono (by decide)) Y._law_take.mg Y._law_take.kp Y._law_take.b .nil zo (za (qv 0) (za zg zd))) (zz za5 zg (z5 zcv Y.int zeX (za (zdr zaL (zj G__law_take (hr.mono (by decide)) Y._law_take.mg Y._law_take.kp Y._law_take.b .nil zo (za (qv 0) (za zg zd))) zg) zd)))) zd)) (zr 4 c__law_likings.nd) (zf (zw 5 c__law_likings.nd (zj G__law_pick (hr.mono (by decide)) Y._law_pick.mg Y._law_pick.kp Y._law_pick.b .nil zo (za (qv 0) (za (zbL (za zg (za zg (za zg (za (ziI zdy zg) (za zg (za zg (za (ziI zdy zg) (za zch zd))))))))) zd))))
   (zk (zcm (zfr PySem.F.plainAttrs_list PySem.F.slot_list_append PySem.F.type_list_append zaS (qv 3) (za (zD (za (zj G__law_conds (hr.mono (by decide)) Y._law_conds.mg Y._law_conds.kp Y._law_conds.b .nil zo (za (qv 0) (za (qv 1) (za (qv 2) (za zgS zd))))) (za (qv 5) zd))) zd))))))
   (zk (zx (z5 zO Y.tuple zbq (za (qv 3) zd)))))),?_⟩
  refine⟨few rfl,λls hls=>?_⟩
  have nls:=hH.ne hls
  refine vr rfl (ex3 a 4 n ⟨rfl,hH.new hls,by omega,by decide,by decide,λt H1 t0 t4 hH1 k1=>(vr rfl (ex3 a 8 (n+1) ⟨rfl,hH1,by omega,by decide,by decide,λu H2 u0 u8 hH2 k2=>?_⟩))⟩)
  have hl1:H1 ls=some (.lst []):=k1 _ _ nls zb
  have hl2:H2 ls=some (.lst []):=k2 _ _ nls hl1
  have kp2:Keep a H H2:=((Keep.new hls).trans k1).trans k2
  refine⟨rfl, .inr (vr rfl (ex2 _ _ ⟨rfl,rfl, .inl ⟨by decide,by decide⟩,ex2 _ _ ⟨rfl,rfl,vr rfl ⟨?_,?_,?_⟩⟩⟩))⟩
  ·split<;>omega
  ·split<;>omega
  have hN:(t+9*(if decide (V.int u=V.int 0)=true then(1:Int)else 0)).toNat<=12:=by split<;>omega
  generalize (t+9*(if decide (V.int u=V.int 0)=true then(1:Int)else 0)).toNat=N at *
  refine zaK zcl (λi σ' H'=>(∃o1 o2,σ'=[some (.ref a),some (.ref h),some (.ref m),some (.ref ls),o1,o2])/\zof (zg7 O) H' ls i/\Hand H' a (n+2+18*i)/\Keep a H H') ?_ (λ_ _ _ _=>trivial) ?_ ?_
  ·exact ⟨(ex2 _ _ rfl),⟨[],[],hl2,RepL.nil,rfl,λ_ z=>nomatch z⟩,hH2.mono (by omega),kp2⟩
  ·rintro i y σ' H3 hi rfl ⟨⟨o1,o2,rfl⟩,⟨zs,ds,hz,rz,hdl,hds⟩,hH3,k3⟩
   have rz1:=rz.1
   refine vr rfl (zoU (ds:=[.int 5, .int 5, .int 1, .int (-3), .int 0, .int 999, .int (-999), .non]) (by walk_at "dsp") λl4 vs4 H4 s4 e4 r4=>?_)
   refine⟨a,_,hH3.same s4,by omega, .inl (ex2 l4 _ ⟨rfl,ziT (hH3.same s4) e4 r4 (by decide),SqL.of e4,by rw[r4.1];decide,by rw[r4.1];decide,λv H5 hv hH5 k5=>?_⟩)⟩
   obtain⟨dn,rn,hw,hwo⟩:∃dn,Rep H5 v dn/\zbN dn=true/\z9 O dn=true:=by
    obtain⟨j,hj,ej⟩:=List.getElem_of_mem hv
    obtain⟨d,hd,rd⟩:=r4.get (i:=j) (v:=v) (by rw[List.getElem?_eq_getElem hj,ej])
    refine⟨d,rd.mono (.keep k5 (hH3.same s4) hH5),?_⟩
    have key:∀d∈([.int 5, .int 5, .int 1, .int (-3), .int 0, .int 999, .int (-999), .non]:List D),zbN d=true/\z9 O d=true:=by walk_at "each"<;>exact ⟨by decide,rfl⟩
    exact key d (List.mem_of_getElem? hd)
   have k35:Keep a H3 H5:=(Keep.of s4).trans k5
   have hz5:=k35 _ _ nls hz
   have hh5:=(hh.keep k3 nh).keep k35 nh
   have hm5:=(hm.keep k3 nm).keep k35 nm
   refine vr rfl ⟨.inl ⟨rfl,_,SqL.of hz5⟩,vr rfl (vr rfl (vr rfl (ex4 a h m _ (ex2 false O ⟨rfl,hH5,by omega,hh5,hm5,nh,nm,λvc dc H6 rc lc hc hco hto hH6 k6=>(vr rfl ⟨few rfl,λp7 hp7=>?_⟩)⟩))))⟩
   have m36:Mono H3 H6:=(Mono.keep k35 hH3 hH5).trans (.keep k6 hH5 hH6)
   have hz7:upd H6 p7 (.tup [vc,v]) ls=some (.lst zs):=by rw[ze (zh (k6 _ _ nls hz5) hp7)];exact k6 _ _ nls hz5
   refine ex3 ls _ _ ⟨rfl,rfl,hz7,zm (by omega),(ex2 _ _ rfl),⟨_,ds ++ [.tup [.tup dc,dn]],zb,?_,?_,?_⟩,?_,?_⟩
   ·exact RepL.mono (.append ((rz.mono m36).mono (.new hp7)) (.cons (.mk2 zb (rc.mono (.new hp7)) ((rn.mono (.keep k6 hH5 hH6)).mono (.new hp7))) .nil)) (.lset hz7)
   ·rw[List.length_append,hdl];rfl
   ·intro d hd
    rcases List.mem_append.mp hd with hd|hd
    ·exact hds d hd
    ·rw[List.mem_singleton.mp hd];exact Bool.and_eq_true _ _▸⟨zkD lc hc (hto rfl) hw,zgp hco hwo⟩
   ·exact ((hH6.new hp7).updNe nls).mono (by rw[show((i+1:Nat):Int)=(i:Int)+1 by omega];omega)
   ·exact Keep.updNew ((k3.trans (k35.trans k6)).trans (Keep.new hp7)) hls
  ·rintro σ' H3 ⟨⟨o1,o2,rfl⟩,⟨zs,ds,hz,rz,hdl,hds⟩,hH3,k3⟩
   refine vr rfl (ex2 ls zs ⟨rfl, .inl ⟨SqL.of hz,λp hp=>?_⟩⟩)
   exact q _ ds _ (.mkL zb (by omega) (rz.mono (.new hp))) (by omega) hds ((hH3.new hp).mono (by omega)) (k3.trans (Keep.new hp))
end
section
variable{P:Program}{w:World}{K:PySem.W.Frag}{mg:Str->Option Value}{base:Heap}
theorem znG{ds:List D}{x:D}(hl:ds.length<=4)(h:∀d∈ds,zJ d=true)(hx:zb8 x=true):zbW (.tup [.tup ds,x])=true:=by
 rw[znt,zib hl h,hx];rfl
theorem zlD{y x:Str}(hx:zi x=true)(hy:y="put"\/y="strike"):zb8 (.tup [.str y, .str x])=true:=by
 rw[zoH,zh3,hx]
 rcases hy with rfl|rfl<;>decide +kernel
theorem zlm(Y:Ev K mg):FnOk P w K mg base CX0 5 Y.a__law_hands Y.d__law_hands zbi (zeP zg3):=by
 have G__law_take:FnOk P w K mg base CX0 1 Y.a__law_take Y.d__law_take zE zb6:=zbE Y
 have G__law_pick:FnOk P w K mg base CX0 2 Y.a__law_pick Y.d__law_pick zF (zbs K):=zbD Y
 have G__law_conds:FnOk P w K mg base CX0 4 Y.a__law_conds Y.d__law_conds zaV zgX:=zhy Y
 refine Y._law_hands.fn.okQ c__law_hands (λvs H Q E h=>?_) (λcdv A outer s H vs Q E hr h=>?_)
 ·obtain ⟨a,h,m,n,O,rfl,_⟩:=h;rfl
 ·obtain ⟨a,h,m,n,O,rfl,hH,hn,hh,hm,nh,nm,q⟩:=h
  refine⟨_,(zf (zw 3 c__law_hands.nd (zbL zd))
   (zf (zbw PassesOwn.never rfl (zc8 Y.range (za (zz z7 (zj G__law_pick (hr.mono (by decide)) Y._law_pick.mg Y._law_pick.kp Y._law_pick.b .nil zo (za (qv 0) (za (zd7 [V.int 0,V.int 0,V.int 1,V.int 2] (by decide +kernel)) zd))) (zz za5 zg (z5 zcv Y.int zeX (za (zdr zaL (zj G__law_take (hr.mono (by decide)) Y._law_take.mg Y._law_take.kp Y._law_take.b .nil zo (za (qv 0) (za zg zd))) zg) zd)))) zd)) (zr 4 c__law_hands.nd) (zf (zw 5 c__law_hands.nd (zj G__law_pick (hr.mono (by decide)) Y._law_pick.mg Y._law_pick.kp Y._law_pick.b .nil zo (za (qv 0) (za (zbL (za (zD (za za3 zd)) (za (zD (za za3 (za (zj G__law_pick (hr.mono (by decide)) Y._law_pick.mg Y._law_pick.kp Y._law_pick.b .nil zo (za (qv 0) (za (qv 2) zd))) zd))) (za (zD (za za3 (za (zj G__law_pick (hr.mono (by decide)) Y._law_pick.mg Y._law_pick.kp Y._law_pick.b .nil zo (za (qv 0) (za (qv 2) zd))) zd))) zd)))) zd))))
   (zk (zcm (zfr PySem.F.plainAttrs_list PySem.F.slot_list_append PySem.F.type_list_append zaS (qv 3) (za (zD (za (zj G__law_conds (hr.mono (by decide)) Y._law_conds.mg Y._law_conds.kp Y._law_conds.b .nil zo (za (qv 0) (za (qv 1) (za (qv 2) (za zgS zd))))) (za (qv 5) zd))) zd))))))
   (zk (zx (z5 zO Y.tuple zbq (za (qv 3) zd)))))),?_⟩
  refine⟨few rfl,λls hls=>?_⟩
  have nls:=hH.ne hls
  have hH0:=hH.new (o:= .lst []) hls
  refine vr rfl ⟨by decide,λpk hpk=>⟨a,n,hH0.new hpk,by omega, .inl (ex2 pk _ ⟨rfl,hH0.ne hpk,SqL.of zb,by decide,by decide,λv H1 hv hH1 k1=>?_⟩)⟩⟩
  obtain⟨c,rfl,c0,c4⟩:∃c:Int,v= .int c/\0<=c/\c<=4:=by
   simp only[List.mem_cons,List.not_mem_nil,or_false] at hv
   rcases hv with rfl|rfl|rfl|rfl<;>exact ⟨_,rfl,by decide,by decide⟩
  refine vr rfl (ex3 a 8 (n+1) ⟨rfl,hH1,by omega,by decide,by decide,λu H2 u0 u8 hH2 k2=>?_⟩)
  have hl0:upd H ls (.lst []) ls=some (.lst []):=zb
  have hl1:H1 ls=some (.lst []):=k1 _ _ nls (by rw[ze (zh hl0 hpk)];exact hl0)
  have hl2:H2 ls=some (.lst []):=k2 _ _ nls hl1
  have kp2:Keep a H H2:=((Keep.new hls).trans ((Keep.new hpk).trans k1)).trans k2
  refine⟨rfl, .inr (vr rfl (ex2 _ _ ⟨rfl,rfl, .inl ⟨by decide,by decide⟩,ex2 _ _ ⟨rfl,rfl,vr rfl ⟨?_,?_,?_⟩⟩⟩))⟩
  ·split<;>omega
  ·split<;>omega
  have hN:(c+8*(if decide (V.int u=V.int 0)=true then(1:Int)else 0)).toNat<=12:=by split<;>omega
  generalize (c+8*(if decide (V.int u=V.int 0)=true then(1:Int)else 0)).toNat=N at *
  refine zaK zcl (λi σ' H'=>(∃o1 o2,σ'=[some (.ref a),some (.ref h),some (.ref m),some (.ref ls),o1,o2])/\zof (zg3 O) H' ls i/\Hand H' a (n+2+20*i)/\Keep a H H') ?_ (λ_ _ _ _=>trivial) ?_ ?_
  ·exact ⟨(ex2 _ _ rfl),⟨[],[],hl2,RepL.nil,rfl,λ_ z=>nomatch z⟩,hH2.mono (by omega),kp2⟩
  ·rintro i y σ' H3 hi rfl ⟨⟨o1,o2,rfl⟩,⟨zs,ds,hz,rz,hdl,hds⟩,hH3,k3⟩
   have rz1:=rz.1
   refine vr rfl ⟨few rfl,λp1 hp1=>?_⟩
   have S1:Same H3 (upd H3 p1 (.tup [.str "keep"])):=Same.new hp1
   have hm3:=hm.keep k3 nm
   have hh3:=hh.keep k3 nh
   refine vr rfl (vr rfl (zcr (hH3.new hp1) (by omega) (hm3.same S1) nm λx H4 hx hH4 k4=>⟨few rfl,λp2 hp2=>?_⟩))
   have S2:Same H4 (upd H4 p2 (.tup [.str "put", .str x])):=Same.new hp2
   refine vr rfl (vr rfl (zcr (hH4.new hp2) (by omega) (((hm3.same S1).keep k4 nm).same S2) nm λy H5 hy hH5 k5=>⟨few rfl,λp3 hp3=>⟨few rfl,λp4 hp4=>?_⟩⟩))
   have S3:Same H5 (upd H5 p3 (.tup [.str "strike", .str y])):=Same.new hp3
   have S4:Same (upd H5 p3 (.tup [.str "strike", .str y])) (upd (upd H5 p3 (.tup [.str "strike", .str y])) p4 (.lst [.ref p1, .ref p2, .ref p3])):=Same.new hp4
   have hH6:=(hH5.new (o:= .tup [.str "strike", .str y]) hp3).new (o:= .lst [.ref p1, .ref p2, .ref p3]) hp4
   refine⟨a,_,hH6,by omega, .inl (ex2 p4 _ ⟨rfl,Hand.ne (hH5.new hp3) hp4,SqL.of zb,(by decide:0<3),(by decide:3<1000),λv H7 hv hH7 k7=>?_⟩)⟩
   have M2:Mono (upd H3 p1 (.tup [.str "keep"])) H4:=Mono.keep k4 (hH3.new hp1) hH4
   have M3:=Mono.keep k5 (hH4.new hp2) hH5
   have M5:=Mono.keep k7 hH6 hH7
   have M45:=((Mono.of S3).trans (Mono.of S4)).trans M5
   have k37:Keep a H3 H7:=(((((Keep.of S1).trans k4).trans (Keep.of S2)).trans k5).trans ((Keep.of S3).trans (Keep.of S4))).trans k7
   obtain⟨da,ra,haa,hao⟩:∃da,Rep H7 v da/\zb8 da=true/\z9 O da=true:=by
    simp only[List.mem_cons,List.not_mem_nil,or_false] at hv
    rcases hv with rfl|rfl|rfl
    ·exact ⟨.tup [.str "keep"],Rep.mono (.mk1 zb (.str _ (by decide))) (((M2.trans (.of S2)).trans M3).trans M45),by decide +kernel,rfl⟩
    ·exact ⟨.tup [.str "put", .str x],Rep.mono (.mk2 zb (.str _ (by decide)) (.str _ (zas hx.1))) (M3.trans M45),zlD hx.1 (.inl rfl),zbP hx.2⟩
    ·exact ⟨.tup [.str "strike", .str y],Rep.mono (.mk2 zb (.str _ (by decide)) (.str _ (zas hy.1))) ((Mono.of S4).trans M5),zlD hy.1 (.inr rfl),zbP hy.2⟩
   have hz7:=k37 _ _ nls hz
   refine vr rfl ⟨.inl ⟨rfl,_,SqL.of hz7⟩,vr rfl (vr rfl (vr rfl (ex4 a h m _ (ex2 true O ⟨rfl,hH7,by omega,hh3.keep k37 nh,hm3.keep k37 nm,nh,nm,λvc dc H8 rc lc hc hco hto hH8 k8=>(vr rfl ⟨few rfl,λp9 hp9=>?_⟩)⟩))))⟩
   have m38:Mono H3 H8:=(Mono.keep k37 hH3 hH7).trans (.keep k8 hH7 hH8)
   have hz9:upd H8 p9 (.tup [vc,v]) ls=some (.lst zs):=by rw[ze (zh (k8 _ _ nls hz7) hp9)];exact k8 _ _ nls hz7
   refine ex3 ls _ _ ⟨rfl,rfl,hz9,zm (by omega),(ex2 _ _ rfl),⟨_,ds ++ [.tup [.tup dc,da]],zb,?_,?_,?_⟩,?_,?_⟩
   ·exact RepL.mono (.append ((rz.mono m38).mono (.new hp9)) (.cons (.mk2 zb (rc.mono (.new hp9)) ((ra.mono (.keep k8 hH7 hH8)).mono (.new hp9))) .nil)) (.lset hz9)
   ·rw[List.length_append,hdl];rfl
   ·intro d hd
    rcases List.mem_append.mp hd with hd|hd
    ·exact hds d hd
    ·rw[List.mem_singleton.mp hd];exact Bool.and_eq_true _ _▸⟨znG lc hc haa,zgp hco hao⟩
   ·exact ((hH8.new hp9).updNe nls).mono (by rw[show((i+1:Nat):Int)=(i:Int)+1 by omega];omega)
   ·exact Keep.updNew ((k3.trans (k37.trans k8)).trans (Keep.new hp9)) hls
  ·rintro σ' H3 ⟨⟨o1,o2,rfl⟩,⟨zs,ds,hz,rz,hdl,hds⟩,hH3,k3⟩
   refine vr rfl (ex2 ls zs ⟨rfl, .inl ⟨SqL.of hz,λp hp=>?_⟩⟩)
   exact q _ ds _ (.mkL zb (by omega) (rz.mono (.new hp))) (by omega) hds ((hH3.new hp).mono (by omega)) (k3.trans (Keep.new hp))
def TD(H:Hp)(d:Addr)(xs:List Str)(c:Nat):Prop:=∃(kvs:List (List Key×V)) (ps:List (Str×Str)),H d=some (.dT kvs)/\kvs.map (·.1)=ps.map zfF/\ps.length<=c/\∀p∈ps,p.1∈xs/\p.2∈xs/\ltS p.1 p.2=true
theorem putK_keys{kvs:List (List Key×V)}{k:List Key}{v:V}:(z6 kvs k v).map (·.1)=kvs.map (·.1)\/(z6 kvs k v).map (·.1)=kvs.map (·.1)++ [k]:=by
 unfold z6
 by_cases h:(kvs.any λkv=>decide (kv.1=k))=true
 ·rw[if_pos h]
  refine .inl ?_
  rw[List.map_map]
  apply List.map_congr_left
  intro x _
  show(if x.1=k then(x.1,v)else x).1=x.1
  split<;>rfl
 ·rw[if_neg h,List.map_append]
  exact .inr rfl
theorem TD.put{H:Hp}{d:Addr}{xs:List Str}{c:Nat}{p:Str×Str}{v:V}{kvs:List (List Key×V)}{ps:List (Str×Str)}(h1:kvs.map (·.1)=ps.map zfF)(h2:ps.length<=c)(h3:∀p∈ps,p.1∈xs/\p.2∈xs/\ltS p.1 p.2=true)(hp:p.1∈xs/\p.2∈xs/\ltS p.1 p.2=true):
 TD (upd H d (.dT (z6 kvs (zfF p) v))) d xs (c+1):=by
 rcases putK_keys (kvs:=kvs) (k:=zfF p) (v:=v)with e|e
 ·exact ⟨_,ps,zb,e.trans h1,by omega,h3⟩
 ·refine ⟨_,ps ++ [p],zb,by rw[e,h1,List.map_append];rfl,by rw[List.length_append];show ps.length+1<=_;omega,λq hq=>?_⟩
  rcases List.mem_append.mp hq with hq|hq
  ·exact h3 q hq
  ·rw[List.mem_singleton.mp hq];exact hp
theorem TD.keep{H H':Hp}{a d:Addr}{xs:List Str}{c:Nat}(h:TD H d xs c)(k:Keep a H H')(n:d≠a):TD H' d xs c:=let⟨kvs,ps,e,r⟩:=h;⟨kvs,ps,k _ _ n e,r⟩
theorem TD.mono{H:Hp}{d:Addr}{xs:List Str}{c c':Nat}(h:TD H d xs c)(l:c<=c'):TD H d xs c':=let⟨kvs,ps,e,f,g,r⟩:=h;⟨kvs,ps,e,f,Nat.le_trans g l,r⟩
theorem zlI{x y:Str}(h:x≠y):ltS (if ltS y x=true then y else x) (if ltS x y=true then y else x)=true:=by
 cases e:ltS x y with
 |true=>rw[zeJ e];simp only[Bool.false_eq_true,if_false,if_true];exact e
 |false=>
  have:=zcL h e
  rw[this];simp only[Bool.false_eq_true,if_false,if_true];exact this
noncomputable def zjw:Sp:=λvs H Q _=>∃(a h:Addr) (n:Int) (more:Nat) (xs:List Str),vs=[.ref a, .ref h, .int more]/\Hand H a n/\n<2^38/\H h=some (.lst (xs.map V.str))/\h≠a/\1<=xs.length/\xs.length<=10/\xs.Nodup/\(∀x∈xs,zi x=true)/\more<=30/\
 ∀(v:V) (ps:List (Str×Str)) (H':Hp),Rep H' v (.tup (ps.map pairD))->ps.Pairwise (λa b=>ltP a b=true)->(∀p∈ps,p.1∈xs/\p.2∈xs/\ltS p.1 p.2=true)->Hand H' a (n+100)->Keep a H H'->Q v H'
theorem zmW(Y:Ev K mg):FnOk P w K mg base CX0 3 Y.a__law_ties Y.d__law_ties zbH zjw:=by
 have G__law_take:FnOk P w K mg base CX0 1 Y.a__law_take Y.d__law_take zE zb6:=zbE Y
 have G__law_pick:FnOk P w K mg base CX0 2 Y.a__law_pick Y.d__law_pick zF (zbs K):=zbD Y
 refine Y._law_ties.fn.okQ c__law_ties (λvs H Q E h=>?_) (λcdv A outer s H vs Q E hr h=>?_)
 ·obtain ⟨a,h,n,more,xs,rfl,_⟩:=h;rfl
 ·obtain ⟨a,h,n,more,xs,rfl,hH,hn,hh,nh,x1,x10,hnd,hxn,hmore,q⟩:=h
  refine⟨_,(zf (zw 3 c__law_ties.nd znL)
   (zf (zbw PassesOwn.never rfl (zlQ Y.range (za zg (za (zH zaH Y.len zco (za (qv 1) zd)) zd))) (zr 4 c__law_ties.nd) (zf (znY 5 6 c__law_ties.nd (za (zM ix_list (qv 1) (qv 4)) (za (zM ix_list (qv 1) (zj G__law_take (hr.mono (by decide)) Y._law_take.mg Y._law_take.kp Y._law_take.b .nil zo (za (qv 0) (za (qv 4) zd)))) zd)))
   (zk (zaQ (zB zjd (zj G__law_take (hr.mono (by decide)) Y._law_take.mg Y._law_take.kp Y._law_take.b .nil zo (za (qv 0) (za zg zd))) zg) (zk (zc0 (hu1 hr) (qv 3) (zD (za (zH (zeR rfl) Y.min zed (za (qv 5) (za (qv 6) zd))) (za (zH (zfn rfl) Y.max zgH (za (qv 5) (za (qv 6) zd))) zd))) zgS)) z8))))
   (zf (zbw PassesOwn.never rfl (zc8 Y.range (za (qv 2) zd)) (zr 4 c__law_ties.nd) (zf (znY 5 6 c__law_ties.nd (za (zj G__law_pick (hr.mono (by decide)) Y._law_pick.mg Y._law_pick.kp Y._law_pick.b .nil zo (za (qv 0) (za (qv 1) zd))) (za (zj G__law_pick (hr.mono (by decide)) Y._law_pick.mg Y._law_pick.kp Y._law_pick.b .nil zo (za (qv 0) (za (qv 1) zd))) zd)))
   (zk (zaQ (zB zhS (qv 5) (qv 6)) (zk (zc0 (hu1 hr) (qv 3) (zD (za (zH (zeR rfl) Y.min zed (za (qv 5) (za (qv 6) zd))) (za (zH (zfn rfl) Y.max zgH (za (qv 5) (za (qv 6) zd))) zd))) zgS)) z8))))
   (zk (zx (z5 zO Y.tuple zbq (za (zH (zgD rfl) Y.sorted zcs (za (qv 3) zd)) zd))))))),?_⟩
  intro d hd
  have nd:=hH.ne hd
  have ndh:d≠h:=λz=>by rw[z,hh] at hd;cases hd
  have hh0:upd H d (.dT []) h=some (.lst (xs.map V.str)):=by rw[ze (Ne.symm ndh)];exact hh
  refine vr rfl (.inl (ex2 h _ ⟨rfl, .inl (SqL.of hh0),ex2 1 _ ⟨rfl,⟨by decide,by decide,by omega,by rw[List.length_map];omega⟩,?_⟩⟩))
  have hN:(((xs.map V.str).length:Int) -1).toNat=xs.length -1:=by rw[List.length_map];omega
  rw[hN]
  refine zaK zcl (λi σ' H'=>(∃o1 o2 o3,σ'=[some (.ref a),some (.ref h),some (.int more),some (.ref d),o1,o2,o3])/\TD H' d xs i/\Hand H' a (n+2*i)/\Keep a H H') ?_ (λ_ _ _ _=>trivial) ?_ ?_
  ·exact ⟨(ex3 _ _ _ rfl),⟨[],[],zb,rfl,Nat.le_refl _,λ_ z=>nomatch z⟩,(hH.new hd).mono (by omega),Keep.new hd⟩
  ·rintro i y σ' H1 hi rfl ⟨⟨o1,o2,o3,rfl⟩,td,hH1,k1⟩
   have hh1:=k1 _ _ nh hh
   have g1:atI (xs.map V.str) (1+(i:Int))=some (.str (xs.getD (i+1) "")):=by
    have hi1:i+1<xs.length:=by omega
    rw[Int.add_comm]
    exact zI (j:=i+1) (by simp[hi1,List.getD])
   refine vr rfl (vr rfl (ixL hh1 g1 (vr rfl (vr rfl (vr rfl (ex3 a _ _ ⟨rfl,hH1,by omega,by omega,by omega,λt' H2 t0 t1 hH2 k2=>?_⟩))))))
   obtain⟨t,rfl⟩:∃t:Nat,t'=(t:Int):=⟨t'.toNat,by omega⟩
   have hh2:=k2 _ _ nh hh1
   have ht:t<xs.length:=by omega
   have g2:atI (xs.map V.str) (t:Int)=some (.str (xs.getD t "")):=zI (by simp[ht,List.getD])
   have hne:xs.getD (i+1) ""≠xs.getD t "":=by
    have hi1:i+1<xs.length:=by omega
    have:=zmd hnd hi1 ht (by omega)
    simpa[List.getD,hi1,ht] using this
   have mx1:xs.getD (i+1) ""∈xs:=by have hi1:i+1<xs.length:=by omega
                                    simp[List.getD,hi1]
   have mx2:xs.getD t ""∈xs:=by simp[List.getD,ht]
   generalize xs.getD (i+1) ""=x at *
   generalize xs.getD t ""=y at *
   refine ixL hh2 g2 (ex2 _ _ ⟨rfl,?_⟩)
   have td2:=td.keep k2 nd
   refine vr rfl (ex3 a 9 _ ⟨rfl,hH2,by omega,by decide,by decide,λu H3 u0 u9 hH3 k3=>(ex2 _ _ ⟨rfl,rfl,vr rfl (zcn (λ_=>?_) (λ_=>?_))⟩)⟩)
   ·obtain ⟨kvs,ps,hkv,hkk,hpl,hpg⟩:=td2.keep k3 nd
    refine vr rfl (vr rfl (vr rfl (ex2 x y ⟨rfl,vr rfl (vr rfl (ex2 x y ⟨rfl,few rfl,λp hp=>?_⟩))⟩)))
    have hkv4:upd H3 p (.tup [.str (if ltS y x=true then y else x), .str (if ltS x y=true then y else x)]) d=some (.dT kvs):=by rw[ze (zh hkv hp)];exact hkv
    have hlk:kvs.length=ps.length:=by have:=congrArg List.length hkk;simpa using this
    refine ex2 d _ ⟨rfl,DPut.t (k:=zfF (if ltS y x=true then y else x,if ltS x y=true then y else x)) hkv4 zb (zm (by omega)),(ex3 _ _ _ rfl),TD.put hkk hpl hpg ⟨?_,?_,zlI hne⟩,?_,?_⟩
    ·dsimp only;split<;>assumption
    ·dsimp only;split<;>assumption
    ·exact ((hH3.new hp).updNe nd).mono (by rw[show((i+1:Nat):Int)=(i:Int)+1 by omega];omega)
    ·exact Keep.updNew (((k1.trans k2).trans k3).trans (Keep.new hp)) hd
   ·exact ⟨(ex3 _ _ _ rfl),(td2.keep k3 nd).mono (by omega),hH3.mono (by rw[show((i+1:Nat):Int)=(i:Int)+1 by omega];omega),(k1.trans k2).trans k3⟩
  ·rintro σ' H1 ⟨⟨o1,o2,o3,rfl⟩,td,hH1,k1⟩
   refine vr rfl ⟨more,rfl,by omega,by omega,?_⟩
   rw[Int.toNat_natCast]
   refine zaK zcl (λi σ' H'=>(∃o1 o2 o3,σ'=[some (.ref a),some (.ref h),some (.int more),some (.ref d),o1,o2,o3])/\TD H' d xs (9+i)/\Hand H' a (n+20+2*i)/\Keep a H H') ?_ (λ_ _ _ _=>trivial) ?_ ?_
   ·exact ⟨(ex3 _ _ _ rfl),td.mono (by omega),hH1.mono (by omega),k1⟩
   ·rintro i y σ' H2 hi rfl ⟨⟨o1,o2,o3,rfl⟩,td2,hH2,k2⟩
    have pk:∀{H0:Hp} {n0:Int} {R:VK},Hand H0 a n0->n0<2^40->H0 h=some (.lst (xs.map V.str))->(∀x H',x∈xs->Hand H' a (n0+1)->Keep a H0 H'->R (.str x) H')->zbs K [.ref a, .ref h] H0 R E0:=λhH0 hn0 e0 qq=>
     ⟨a,_,hH0,hn0, .inl ⟨h,_,rfl,nh,SqL.of e0,by rw[List.length_map];omega,by rw[List.length_map];omega,λv H' hv hH' k'=>by
       obtain⟨x,hx,rfl⟩:=List.mem_map.mp hv
       exact qq x H' hx hH' k'⟩⟩
    have hh2:=k2 _ _ nh hh
    refine vr rfl (vr rfl (pk hH2 (by omega) hh2 λx H3 hx hH3 k3=>(vr rfl (vr rfl (pk hH3 (by omega) (k3 _ _ nh hh2) λy H4 hy hH4 k4=>(ex2 _ _ ⟨rfl,vr rfl (vr rfl ⟨rfl,vr rfl (zcn (λhc=>?_) (λ_=>?_))⟩)⟩))))))
    ·have hne:x≠y:=λz=>by rw[z] at hc;simp at hc
     obtain⟨kvs,ps,hkv,hkk,hpl,hpg⟩:=(td2.keep k3 nd).keep k4 nd
     refine vr rfl (vr rfl (vr rfl (ex2 x y ⟨rfl,vr rfl (vr rfl (ex2 x y ⟨rfl,few rfl,λp hp=>?_⟩))⟩)))
     have hkv4:upd H4 p (.tup [.str (if ltS y x=true then y else x), .str (if ltS x y=true then y else x)]) d=some (.dT kvs):=by rw[ze (zh hkv hp)];exact hkv
     have hlk:kvs.length=ps.length:=by have:=congrArg List.length hkk;simpa using this
     refine ex2 d _ ⟨rfl,DPut.t (k:=zfF (if ltS y x=true then y else x,if ltS x y=true then y else x)) hkv4 zb (zm (by omega)),(ex3 _ _ _ rfl),TD.put hkk hpl hpg ⟨?_,?_,zlI hne⟩,?_,?_⟩
     ·dsimp only;split<;>assumption
     ·dsimp only;split<;>assumption
     ·exact ((hH4.new hp).updNe nd).mono (by rw[show((i+1:Nat):Int)=(i:Int)+1 by omega];omega)
     ·exact Keep.updNew (((k2.trans k3).trans k4).trans (Keep.new hp)) hd
    ·exact ⟨(ex3 _ _ _ rfl),((td2.keep k3 nd).keep k4 nd).mono (by omega),hH4.mono (by rw[show((i+1:Nat):Int)=(i:Int)+1 by omega];omega),(k2.trans k3).trans k4⟩
   ·rintro σ' H2 ⟨⟨o1,o2,o3,rfl⟩,⟨kvs,ps,hkv,hkk,hpl,hpg⟩,hH2,k2⟩
    refine vr rfl (ex3 d kvs ps ⟨rfl,hkv,hkk,by omega,λps' vs l hperm hpw hpa hl=>(ex2 l vs ⟨rfl, .inl ⟨SqL.of zb,λp hp=>?_⟩⟩)⟩)
    have S:Same H2 (upd (upd H2 l (.lst vs)) p (.tup vs)):=(Same.new hl).trans (Same.new hp)
    refine q _ ps' _ (.mkL zb (by rw[List.length_map,hperm.length_eq];omega) ⟨by rw[List.length_map];exact hpa.1,λi v dd e1 e2=>?_⟩) hpw (λp hp=>hpg p (hperm.mem_iff.mp hp)) ((hH2.same S).mono (by omega)) (k2.trans (Keep.of S))
    rw[List.getElem?_map] at e2
    cases e3:ps'[i]? with
    |none=>rw[e3] at e2;cases e2
    |some pr=>
     rw[e3] at e2
     cases e2
     obtain⟨b,rfl,hb⟩:=hpa.2 i v pr e1 e3
     have hpr:=hpg pr (hperm.mem_iff.mp (List.mem_of_getElem? e3))
     exact .mk2 (S _ _ hb) (.str _ (zas (hxn _ hpr.1))) (.str _ (zas (hxn _ hpr.2.1)))
end
section
variable{P:Program}{w:World}{K:PySem.W.Frag}{mg:Str->Option Value}{base:Heap}
noncomputable def zlP:Sp:=λvs H Q _=>∃(a:Addr) (n:Int),vs=[.ref a]/\Hand H a n/\n<2^36/\∀(v:V) (g:Str) (hs:List Str) (ps:List (Str×Str)) (lks hds:List D) (H':Hp),Rep H' v (zar g hs ps lks hds)->TownOk g hs ps lks hds->(∀x∈hs,x≠"nowhere")->(∃O,Pool hs lks hds O)->(∀d∈lks,∃ds,d= .tup ds/\ds.length<=12)->(∀d∈hds,∃ds,d= .tup ds/\ds.length<=12)->Hand H' a (n+9000)->Keep a H H'->Q v H'
theorem zfH{d:D}{ds:List D}(e:d= .tup ds)(h:ds.length<=12){O:List Str}(h2:∀d∈ds,zg7 O d=true):zbI d=true/\zcj O d=true/\∃es,d= .tup es/\es.length<=12:=by
 subst e
 refine⟨?_,List.all_eq_true.mpr λd hd=>((Bool.and_eq_true _ _).mp (h2 d hd)).2,ds,rfl,h⟩
 show(decide (ds.length<=90)&&ds.all zL)=true
 rw[decide_eq_true (by omega),List.all_eq_true.mpr λd hd=>((Bool.and_eq_true _ _).mp (h2 d hd)).1];rfl
theorem zh1{d:D}{ds:List D}(e:d= .tup ds)(h:ds.length<=12){O:List Str}(h2:∀d∈ds,zg3 O d=true):zbY d=true/\zcj O d=true/\∃es,d= .tup es/\es.length<=12:=by
 subst e
 refine⟨?_,List.all_eq_true.mpr λd hd=>((Bool.and_eq_true _ _).mp (h2 d hd)).2,ds,rfl,h⟩
 show(decide (ds.length<=90)&&ds.all zbW)=true
 rw[decide_eq_true (by omega),List.all_eq_true.mpr λd hd=>((Bool.and_eq_true _ _).mp (h2 d hd)).1];rfl
theorem zmM(Y:Ev K mg):FnOk P w K mg base CX0 6 Y.a__law_town Y.d__law_town zbQ zlP:=by
 have G__law_take:FnOk P w K mg base CX0 1 Y.a__law_take Y.d__law_take zE zb6:=zbE Y
 have G__law_pick:FnOk P w K mg base CX0 2 Y.a__law_pick Y.d__law_pick zF (zbs K):=zbD Y
 have G__law_names:FnOk P w K mg base CX0 3 Y.a__law_names Y.d__law_names zbo zhp:=zkk Y
 have G__law_ties:FnOk P w K mg base CX0 3 Y.a__law_ties Y.d__law_ties zbH zjw:=zmW Y
 have G__law_likings:FnOk P w K mg base CX0 5 Y.a__law_likings Y.d__law_likings zaN (zeP zg7):=zix Y
 have G__law_hands:FnOk P w K mg base CX0 5 Y.a__law_hands Y.d__law_hands zbi (zeP zg3):=zlm Y
 refine Y._law_town.fn.okQ c__law_town (λvs H Q E h=>?_) (λcdv A outer s H vs Q E hr h=>?_)
 ·obtain ⟨a,n,rfl,_⟩:=h;rfl
 ·obtain ⟨a,n,rfl,hH,hn,q⟩:=h
  refine⟨_,(zf (zw 1 c__law_town.nd (zM ix_list (zbL (za zg (za zg (za zg (za zg (za zg (za zg (za zg (za (zz z7 zg (zj G__law_take (hr.mono (by decide)) Y._law_take.mg Y._law_take.kp Y._law_take.b .nil zo (za (qc 0) (za zg zd)))) zd))))))))) (zj G__law_take (hr.mono (by decide)) Y._law_take.mg Y._law_take.kp Y._law_take.b .nil zo (za (qc 0) (za zg zd)))))
   (zf (zcp 2 c__law_town.nd (zj G__law_names (hr.mono (by decide)) Y._law_names.mg Y._law_names.kp Y._law_names.b .nil zo (za (qc 0) (za (zz z7 (qv 1) zg) zd))))
   (zf (zcP (zD (za (zoO zg9 (qc 2) zi8 (ziZ (qv 1))) (za (zoO zg9 (qc 2) (ziZ (qv 1)) zi8) zd))) (zcO 2 rfl (zv (zr 3 c__law_town.nd) (zv (zjZ 4 c__law_town.nd) zbu))))
   (zf (zw 5 c__law_town.nd (zj G__law_ties (hr.mono (by decide)) Y._law_ties.mg Y._law_ties.kp Y._law_ties.b .nil zo (za (qc 0) (za (qv 3) (za (zj G__law_take (hr.mono (by decide)) Y._law_take.mg Y._law_take.kp Y._law_take.b .nil zo (za (qc 0) (za zg zd))) zd)))))
   (zf (zw 6 c__law_town.nd (zj G__law_pick (hr.mono (by decide)) Y._law_pick.mg Y._law_pick.kp Y._law_pick.b .nil zo (za (qc 0) (za (qv 3) zd))))
   (zf (zw 7 c__law_town.nd (z5 zO Y.tuple zbq (za (zH zg8 Y.sorted zcs (za (qv 3) zd)) zd)))
   (zf (zw 8 c__law_town.nd (z5 zO Y.tuple zbq (za (zcI (src:=[none,some 0,some 4,some 2]) o__law_town_1 rfl rfl (zc3 (qv 7)) (λ_ _ _ _ _=>(zr 0 o__law_town_1.nd)) (λ_ _ _ _ _=>zew) (λ_ _ _ _ _=>(zj G__law_likings (hr.mono (by decide)) Y._law_likings.mg Y._law_likings.kp Y._law_likings.b .nil zo (za (qc 1) (za (qc 3) (za (qc 2) zd)))))) zd)))
   (zf (zw 9 c__law_town.nd (z5 zO Y.tuple zbq (za (zcI (src:=[none,some 0,some 4,some 2]) o__law_town_2 rfl rfl (zc3 (qv 7)) (λ_ _ _ _ _=>(zr 0 o__law_town_2.nd)) (λ_ _ _ _ _=>zew) (λ_ _ _ _ _=>(zj G__law_hands (hr.mono (by decide)) Y._law_hands.mg Y._law_hands.kp Y._law_hands.b .nil zo (za (qc 1) (za (qc 3) (za (qc 2) zd)))))) zd)))
   (zk (zx (zD (za (qv 6) (za (qv 7) (za (qv 5) (za (qv 8) (za (qv 9) zd)))))))))))))))),?_⟩
  refine vr rfl (ex3 a 5 n ⟨rfl,hH,by omega,by decide,by decide,λt H1 t0 t5 hH1 k1=>(ex2 _ _ ⟨rfl,rfl,few rfl,λpl hpl=>(vr rfl (ex3 a 8 (n+1) ⟨rfl,hH1.new hpl,by omega,by decide,by decide,λu H2 u0 u8 hH2 k2=>?_⟩))⟩)⟩)
  have hpl2:=k2 _ _ (hH1.ne hpl) (zb (o:= .lst [V.int 2,V.int 3,V.int 3,V.int 4,V.int 4,V.int 5,V.int 1,V.int (6+t)]))
  obtain⟨v,ev,hv⟩:=zdc (xs:=[V.int 2,V.int 3,V.int 3,V.int 4,V.int 4,V.int 5,V.int 1,V.int (6+t)]) u0 u8
  obtain⟨m,rfl,m1,m10⟩:∃m:Nat,v= .int (m:Int)/\1<=m/\m<=10:=by
   simp only[List.mem_cons,List.not_mem_nil,or_false] at hv
   rcases hv with rfl|rfl|rfl|rfl|rfl|rfl|rfl|rfl
   ·exact ⟨2,rfl,by decide,by decide⟩
   ·exact ⟨3,rfl,by decide,by decide⟩
   ·exact ⟨3,rfl,by decide,by decide⟩
   ·exact ⟨4,rfl,by decide,by decide⟩
   ·exact ⟨4,rfl,by decide,by decide⟩
   ·exact ⟨5,rfl,by decide,by decide⟩
   ·exact ⟨1,rfl,by decide,by decide⟩
   ·exact ⟨(6+t).toNat,by congr 1;omega,by omega,by omega⟩
  have kp2:Keep a H H2:=(k1.trans (Keep.new hpl)).trans k2
  refine ixL hpl2 ev ?_
  refine vr rfl (vr rfl (ex2 _ _ ⟨rfl,rfl,a,n+1+1,m+3,by push_cast;rfl,hH2,by omega,by omega,by omega,λln xs H3 hln hl3 hlen hxn hxd hxw hH3 k3=>?_⟩))
  have nln:ln≠a:=hH2.ne hln
  refine vr rfl (vr rfl (vr rfl (ex2 ln _ ⟨rfl,SqL.of hl3,λp1 hp1=>?_⟩)))
  have S1:Same H3 (upd H3 p1 (.lst (zdn (xs.map V.str) none (some (m:Int))))):=Same.new hp1
  refine vr rfl (vr rfl (vr rfl (ex2 ln _ ⟨rfl,SqL.of (S1 _ _ hl3),λp2 hp2=>⟨few rfl,λp3 hp3=>?_⟩⟩)))
  have S2:=Same.new (o:= .lst (zdn (xs.map V.str) (some (m:Int)) none)) hp2
  have S3:=Same.new (o:= .tup [V.ref p1,V.ref p2]) hp3
  have S13:=(S1.trans S2).trans S3
  have hp1':=S3 _ _ (S2 _ _ (zb (H:=H3) (a:=p1) (o:= .lst (zdn (xs.map V.str) none (some (m:Int))))))
  have hp2':=S3 _ _ (zb (H:=upd H3 p1 (.lst (zdn (xs.map V.str) none (some (m:Int))))) (a:=p2) (o:= .lst (zdn (xs.map V.str) (some (m:Int)) none)))
  refine ex2 p3 _ ⟨rfl, .inl (.inl zb),rfl,ex2 _ _ ⟨rfl,ex2 _ _ ⟨rfl,rfl,?_⟩⟩⟩
  have hl4:=S13 _ _ hl3
  have hH4:=hH3.same S13
  have np1:p1≠a:=hH3.ne hp1
  have np2:p2≠a:=(hH3.same S1).ne hp2
  have kp4:=(kp2.trans k3).trans (Keep.of S13)
  generalize (upd (upd (upd H3 p1 (HO.lst (zdn (xs.map V.str) none (some (m:Int))))) p2 (HO.lst (zdn (xs.map V.str) (some (m:Int)) none))) p3 (HO.tup [V.ref p1,V.ref p2]))=H4 at *
  rw[zho,←List.map_take] at hp1'
  rw[zlK,←List.map_drop] at hp2'
  have hth:(xs.take m).length=m:=by rw[List.length_take];omega
  have htn:∀x∈xs.take m,zi x=true:=λx hx=>hxn x (List.mem_of_mem_take hx)
  have htw:∀x∈xs.take m,x≠"nowhere":=λx hx=>hxw x (List.mem_of_mem_take hx)
  have htd:(xs.take m).Nodup:=hxd.sublist (List.take_sublist m xs)
  have hdn:∀x∈xs.drop m,zi x=true:=λx hx=>hxn x (List.mem_of_mem_drop hx)
  have hdl:(xs.drop m).length=3:=by rw[List.length_drop];omega
  have hto:∀x∈xs.take m,x∈xs:=λx hx=>List.mem_of_mem_take hx
  have hdo:∀x∈xs.drop m,x∈xs:=λx hx=>List.mem_of_mem_drop hx
  generalize xs.take m=hs at *
  generalize xs.drop m=ms at *
  have NLn:NL xs H4 ln:=⟨xs,hl4,by omega,by omega,λx hx=>⟨hxn x hx,hx⟩⟩
  have NLm:NL xs H4 p2:=⟨ms,hp2',by omega,by omega,λx hx=>⟨hdn x hx,hdo x hx⟩⟩
  refine vr rfl (vr rfl (vr rfl (ex3 a 5 _ ⟨rfl,hH4,by omega,by decide,by decide,λmo' H5 mo0 mo5 hH5 k45=>?_⟩)))
  obtain⟨mo,rfl⟩:∃mo:Nat,mo'=(mo:Int):=⟨mo'.toNat,by omega⟩
  have mo30:mo<=30:=by omega
  have hp15:=k45 _ _ np1 hp1'
  refine ex4 a p1 _ mo ⟨hs,rfl,hH5,by omega,hp15,np1,by omega,by omega,htd,htn,mo30,λvt ps H6 rt hpw hpg hH6 k6=>?_⟩
  have hp16:=k6 _ _ np1 hp15
  refine vr rfl (vr rfl ⟨a,_,hH6,by omega, .inl (ex2 p1 _ ⟨rfl,np1,SqL.of hp16,by rw[List.length_map];omega,by rw[List.length_map];omega,λvg H7 hvg hH7 k7=>?_⟩)⟩)
  obtain⟨g,hg,rfl⟩:=List.mem_map.mp hvg
  have hp17:=k7 _ _ np1 hp16
  have rt7:=rt.mono (.keep k7 hH6 hH7)
  refine vr rfl (ex2 p1 hs ⟨rfl,SqL.of hp17,by omega,htd,λhs' l hperm hrise hl=>(ex2 l _ ⟨rfl, .inl ⟨SqL.of zb,λpr hpr=>?_⟩⟩)⟩)
  have S8:Same H7 (upd (upd H7 l (.lst (hs'.map V.str))) pr (.tup (hs'.map V.str))):=(Same.new hl).trans (Same.new hpr)
  have hpr8:(upd (upd H7 l (.lst (hs'.map V.str))) pr (.tup (hs'.map V.str))) pr=some (.tup (hs'.map V.str)):=zb
  have hH8:=hH7.same S8
  have rt8:=rt7.same S8
  have npr:pr≠a:=(hH7.new hl).ne hpr
  have k48:Keep a H4 (upd (upd H7 l (.lst (hs'.map V.str))) pr (.tup (hs'.map V.str))):=((k45.trans k6).trans k7).trans (Keep.of S8)
  have hlen':hs'.length=m:=by rw[hperm.length_eq];exact hth
  generalize (upd (upd H7 l (HO.lst (hs'.map V.str))) pr (HO.tup (hs'.map V.str)))=H8 at *
  have NLn8:=NLn.keep k48 nln
  have NLm8:=NLm.keep k48 np2
  refine vr rfl ⟨pr,rfl,⟨_, .inl (.inl hpr8)⟩,?_⟩
  refine zen (a:=a) (m:=n+300) (c:=400) (Pd:=λ_ d=>zbI d=true/\zcj xs d=true/\∃es,d= .tup es/\es.length<=12) (σr:=[some (.ref a),some (.ref p2),some (.ref ln)]) (zb5 (K:=K) (xs:=hs'.map V.str)) (λH' k=> .inl (.inl (k _ _ npr hpr8))) rfl (hH8.mono (by omega)) (by rw[List.length_map];omega) (by decide) (λi x H9 Q1 hi hH9 k9 q1=>?_) (λl1 vl lks H9 hl1 hl1' rl hll pl9 hH9 k9=>?_)
  ·rw[List.length_map] at hi
   exact vr rfl (vr rfl (vr rfl (ex4 a ln p2 _ ⟨xs,rfl,hH9,by omega,NLn8.keep k9 nln,NLm8.keep k9 np2,nln,np2,λv ds H10 rv hds hg10 hH10 k10=>q1 v _ H10 rv (zfH rfl hds hg10) hH10 k10⟩)))
  refine ex2 l1 vl ⟨rfl, .inl ⟨SqL.of hl1',λpA hpA=>?_⟩⟩
  rw[List.length_map] at hll hH9
  have SA:=Same.new (o:= .tup vl) hpA
  have rlA:Rep (upd H9 pA (.tup vl)) (.ref pA) (.tup lks):= .mkL zb (by omega) (rl.mono (.new hpA))
  have hHA:=hH9.new (o:= .tup vl) hpA
  have k8A:Keep a H8 (upd H9 pA (.tup vl)):=k9.trans (Keep.of SA)
  generalize (upd H9 pA (HO.tup vl))=HA at *
  have hprA:=k8A _ _ npr hpr8
  refine vr rfl ⟨pr,rfl,⟨_, .inl (.inl hprA)⟩,?_⟩
  refine zen (a:=a) (m:=n+300+400*hs'.length) (c:=400) (Pd:=λ_ d=>zbY d=true/\zcj xs d=true/\∃es,d= .tup es/\es.length<=12) (σr:=[some (.ref a),some (.ref p2),some (.ref ln)]) (zb5 (K:=K) (xs:=hs'.map V.str)) (λH' k=> .inl (.inl (k _ _ npr hprA))) rfl hHA (by rw[List.length_map];omega) (by decide) (λi x HB Q1 hi hHB kB q1=>?_) (λl2 va hds HB hl2 hl2' ra hla plB hHB kB=>?_)
  ·rw[List.length_map] at hi
   exact vr rfl (vr rfl (vr rfl (ex4 a ln p2 _ ⟨xs,rfl,hHB,by omega,(NLn8.keep k8A nln).keep kB nln,(NLm8.keep k8A np2).keep kB np2,nln,np2,λv ds H10 rv hds hg10 hH10 k10=>q1 v _ H10 rv (zh1 rfl hds hg10) hH10 k10⟩)))
  refine ex2 l2 va ⟨rfl, .inl ⟨SqL.of hl2',λpB hpB=>?_⟩⟩
  rw[List.length_map] at hla hHB
  have SB:=Same.new (o:= .tup va) hpB
  have mAB:Mono HA (upd HB pB (.tup va)):=(Mono.keep kB hHA hHB).trans (.of SB)
  have raB:Rep (upd HB pB (.tup va)) (.ref pB) (.tup hds):= .mkL zb (by omega) (ra.mono (.new hpB))
  have kAB:Keep a HA (upd HB pB (.tup va)):=kB.trans (Keep.of SB)
  have hHB':=hHB.new (o:= .tup va) hpB
  have rlB:=rlA.mono mAB
  have rtB:=(rt8.mono (.keep k8A hH8 hHA)).mono mAB
  have hprB:=kAB _ _ npr hprA
  refine vr rfl (vr rfl (vr rfl (vr rfl (vr rfl ⟨few rfl,λpT hpT=>?_⟩))))
  have rr:Rep (upd HB pB (.tup va)) (.ref pr) (.tup (hs'.map D.str)):=by
   refine .mkL hprB (by rw[List.length_map];omega) ⟨by rw[List.length_map,List.length_map],λi v d e1 e2=>?_⟩
   rw[List.getElem?_map] at e1 e2
   cases e3:hs'[i]? with
   |none=>rw[e3] at e1;cases e1
   |some x=>
    rw[e3] at e1 e2
    cases e1
    cases e2
    exact .str x (zas (htn x (hperm.mem_iff.mp (List.mem_of_getElem? e3))))
  have ST:=Mono.new (o:= .tup [.str g, .ref pr,vt, .ref pA, .ref pB]) hpT
  have rtown:=Rep.mkL (H:=upd (upd HB pB (.tup va)) pT (.tup [.str g, .ref pr,vt, .ref pA, .ref pB])) (p:=pT) (vs:=[.str g, .ref pr,vt, .ref pA, .ref pB]) (ds:=[.str g, .tup (hs'.map D.str), .tup (ps.map pairD), .tup lks, .tup hds]) zb (Nat.le_of_ble_eq_true rfl) (.cons (.str g (zas (htn g hg))) (.cons (rr.mono ST) (.cons (rtB.mono ST) (.cons (rlB.mono ST) (.cons (raB.mono ST) .nil)))))
  have pl9':=zfz (P:=λd=>zbI d=true/\zcj xs d=true/\∃es,d= .tup es/\es.length<=12) pl9
  have plB':=zfz (P:=λd=>zbY d=true/\zcj xs d=true/\∃es,d= .tup es/\es.length<=12) plB
  refine q _ g hs' ps lks hds _ rtown ⟨hrise,by omega,by omega,λx hx=>htn x (hperm.mem_iff.mp hx),hperm.mem_iff.mpr hg,hpw,λp hp=>?_,by omega,by omega,λd hd=>(pl9' d hd).1,λd hd=>(plB' d hd).1⟩ (λx hx=>htw x (hperm.mem_iff.mp hx)) ⟨xs,by omega,hxn,λx hx=>hto x (hperm.mem_iff.mp hx),λd hd=>(pl9' d hd).2.1,λd hd=>(plB' d hd).2.1⟩ (λd hd=>(pl9' d hd).2.2) (λd hd=>(plB' d hd).2.2) ((hHB'.new hpT).mono (by omega)) (((kp4.trans k48).trans (k8A.trans kAB)).trans (Keep.new hpT))
  obtain⟨h1,h2,h3⟩:=hpg p hp
  exact⟨hperm.mem_iff.mpr h1,hperm.mem_iff.mpr h2,h3⟩
end
section
variable{P:Program}{w:World}{K:PySem.W.Frag}{mg:Str->Option Value}{base:Heap}
theorem zdq{k:Nat}{c:D->Bool}{g:List Str->List Str->Option Str->D->Bool}(Y:Ev K mg)(G_holds:FnOk P w K mg base CX0 k Y.a_holds Y.d_holds zbV (zdJ c g))(c':D->Bool)(g':List Str->List Str->Option Str->D->Bool)
 (hc:∀d,c' d=true->∃x e,d= .tup [.str x,e]) (h1:∀ws ms to x e,c' (.tup [.str x,e])=true->x="not"->c e=true/\(!g ws ms to e)=g' ws ms to (.tup [.str x,e]))
 (h2:∀x e,c' (.tup [.str x,e])=true->¬x="not"->zC (.tup [.str x,e])=true/\∀ws ms to,phB ws ms to x e=g' ws ms to (.tup [.str x,e])):
 FnOk P w K mg base CX0 (k+1) Y.a_holds Y.d_holds zbV (zdJ c' g'):=by
 refine Y.holds.fn.okQ c_holds (λvs H Q E h=>?_) (λcdv A outer s H vs Q E hr h=>?_)
 ·obtain ⟨v,d,pw,pm,vt,ws,ms,to,rfl,_⟩:=h;rfl
 ·obtain ⟨v,d,pw,pm,vt,ws,ms,to,rfl,hd,hcd,hpw,hpm,hto,nw,nm,w1,lw,lm,q⟩:=h
  obtain⟨x,e,rfl⟩:=hc d hcd
  obtain⟨p,v0,v1,rfl,hp,r0,r1⟩:=hd.of2
  cases r0 with
  |str _ hx=>
  refine⟨_,(zf (zcP (qv 0) (zcO 2 rfl (zv (zr 4 c_holds.nd) (zv (zr 5 c_holds.nd) zbu))))
   (zf (zaQ (zB zaL (qv 4) za3) (zk (zx (zpB (zj G_holds hr Y.holds.mg Y.holds.kp Y.holds.b .nil zo (za (qv 5) (za (qv 1) (za (qv 2) (za (qv 3) zd)))))))) z8)
   (zf (zaQ (zB zaL (qv 4) za3) (zk (zx (zdr zd3 (qv 5) (qv 1)))) z8)
   (zf (zaQ (zB zaL (qv 4) za3) (zk (zx (zpI (zdr zjd (zH zaH Y.len zco (za (qv 1) zd)) zg) (zpL (zdr zaL (zM ix_tup (qv 1) zg) (qv 5)))))) z8)
   (zf (zaQ (zB zaL (qv 4) za3) (zk (zx (zdr zaL (qv 3) (qv 5)))) z8)
   (zf (zaQ (zB zaL (qv 4) za3) (zk (zx (zdr zd3 (qv 5) (qv 2)))) z8)
   (zk (zx (zdr zom (zz zoQ (zH zaH Y.len zco (za (qv 1) zd)) zg) (qv 5)))))))))),?_⟩
  refine vr rfl (ex2 p _ ⟨rfl, .inl (.inl hp),rfl,ex2 _ _ ⟨rfl,ex2 _ _ ⟨rfl,rfl,?_⟩⟩⟩)
  refine vr rfl ⟨rfl,vr rfl (zcn (λel=>?_) (λel=>?_))⟩
  ·obtain ⟨ce,ge⟩:=h1 ws ms to x e hcd (V.str.inj (of_decide_eq_true el))
   refine vr rfl (vr rfl (vr rfl (vr rfl (ex8 v1 e pw pm vt ws ms to ⟨rfl,r1,ce,hpw,hpm,hto,nw,nm,w1,lw,lm,λH' s'=>(vr rfl ?_)⟩))))
   have q:=q H' s'
   rw[←ge] at q
   exact q
  have q:=q H (Same.refl H)
  obtain⟨hpl,ge⟩:=h2 x e hcd λz=>el (decide_eq_true (by rw[z]))
  rw[←ge ws ms to] at q
  have bad:∀{y z:Str},y=z->¬decide (V.str y=V.str z)=true->False:=λe h=>h (by rw[e];exact decide_eq_true rfl)
  refine vr rfl ⟨rfl,vr rfl (zcn (λe1=>?_) (λe1=>?_))⟩
  ·have e1:=V.str.inj (of_decide_eq_true e1)
   subst e1
   rcases zba hpl with⟨z,_⟩|⟨_,y,rfl,ny⟩
   ·exact absurd z (by decide +kernel)
   cases r1 with|str _ _=>
   rw[zpo,←zeL] at q
   exact vr rfl (vr rfl (ex2 pw _ ⟨rfl, .inr (.inl (.inl hpw)),rfl,zdh,q⟩))
  refine vr rfl ⟨rfl,vr rfl (zcn (λe2=>?_) (λe2=>?_))⟩
  ·have e2:=V.str.inj (of_decide_eq_true e2)
   subst e2
   rcases zba hpl with⟨z,_⟩|⟨_,y,rfl,ny⟩
   ·exact absurd z (by decide +kernel)
   cases r1 with|str _ _=>
   rw[znq] at q
   refine vr rfl (.inl (ex2 pw _ ⟨rfl, .inr (.inl (.inl hpw)),ex2 _ _ ⟨rfl,rfl,vr rfl ?_⟩⟩))
   match ws,hpw,q with
   |[],hpw,q=>exact zbM rfl q
   |[a],hpw,q=>exact zbM rfl q
   |a::b::r,hpw,q=>
    refine zbA (decide_eq_true (by rw[List.length_map,List.length_cons,List.length_cons];omega)) ?_
    refine vr rfl (ixT hpw at1 (vr rfl ⟨rfl,?_⟩))
    rw[zbR]
    have eb:decide ((a::b::r)[1]?=some y)=decide (b=y):=by
     rw[Bool.eq_iff_iff,decide_eq_true_iff,decide_eq_true_iff];simp
    rw[eb] at q
    exact q
  refine vr rfl ⟨rfl,vr rfl (zcn (λe3=>?_) (λe3=>?_))⟩
  ·have e3:=V.str.inj (of_decide_eq_true e3)
   subst e3
   rcases zba hpl with⟨z,_⟩|⟨_,y,rfl,ny⟩
   ·exact absurd z (by decide +kernel)
   cases r1 with|str _ _=>
   obtain⟨hsc,hde⟩:=hto.eq (y:=y)
   rw[zpq,←hde] at q
   exact vr rfl (vr rfl ⟨hsc,q⟩)
  refine vr rfl ⟨rfl,vr rfl (zcn (λe4=>?_) (λe4=>?_))⟩
  ·have e4:=V.str.inj (of_decide_eq_true e4)
   subst e4
   rcases zba hpl with⟨z,_⟩|⟨_,y,rfl,ny⟩
   ·exact absurd z (by decide +kernel)
   cases r1 with|str _ _=>
   rw[zns,←zeL] at q
   exact vr rfl (vr rfl (ex2 pm _ ⟨rfl, .inr (.inl (.inl hpm)),rfl,zdh,q⟩))
  rcases zba hpl with⟨rfl,i,rfl,i0,i9⟩|⟨hn,y,rfl,ny⟩
  ·cases r1 with|int _=>
   rw[zmv] at q
   refine vr rfl (.inl (ex2 pw _ ⟨rfl, .inr (.inl (.inl hpw)),ex2 _ _ ⟨rfl,rfl,vr rfl (ex2 _ _ ⟨rfl,rfl,?_⟩)⟩⟩))
   have eb:decide (i<=((ws.map V.str).length:Int) -1)=decide (i<(ws.length:Int)):=by
    rw[Bool.eq_iff_iff,decide_eq_true_iff,decide_eq_true_iff,List.length_map];omega
   rw[←eb] at q
   exact q
  ·rcases zdG hn with z|z|z|z
   ·exact (bad z e1).elim
   ·exact (bad z e2).elim
   ·exact (bad z e3).elim
   ·exact (bad z e4).elim
theorem zj1(Y:Ev K mg):FnOk P w K mg base CX0 1 Y.a_holds Y.d_holds zbV (zdJ (λ_=>false) (λ_ _ _ _=>false)):=by
 refine Y.holds.fn.okQ c_holds (λvs H Q E h=>?_) (λcdv A outer s H vs Q E hr h=>?_)
 ·obtain ⟨v,d,_,_,_,_,_,_,rfl,_,z,_⟩:=h;cases z
 ·obtain ⟨v,d,_,_,_,_,_,_,rfl,_,z,_⟩:=h;cases z
theorem zk2(Y:Ev K mg):FnOk P w K mg base CX0 3 Y.a_holds Y.d_holds zbV (zdJ zJ zcK):=by
 refine zdq (c:=zC) (g:=zea) Y ?_ zJ zcK zf7 ?_ ?_
 ·refine zdq Y (zj1 Y) zC zea zca ?_ ?_
  ·intro ws ms to x e h z
   subst z
   exact absurd h (by rw[zdl];exact Bool.false_ne_true)
  ·exact λx e h _=>⟨h,λ_ _ _=>rfl⟩
 ·intro ws ms to x e h z
  subst z
  rw[zdV,if_pos rfl] at h
  exact⟨h,by show(!zea ws ms to e)=(if("not":Str)="not"then !zea ws ms to e else phB ws ms to "not" e);rw[if_pos rfl]⟩
 ·intro x e h z
  rw[zdV,if_neg z] at h
  exact⟨h,λws ms to=>by show phB ws ms to x e=(if x="not"then !zea ws ms to e else phB ws ms to x e);rw[if_neg z]⟩
end
section
variable{P:Program}{w:World}{K:PySem.W.Frag}{mg:Str->Option Value}{base:Heap}
theorem zem(Y:Ev K mg):FnOk P w K mg base CX0 4 Y.a_all_hold Y.d_all_hold za4 ziV:=by
 have G_holds:FnOk P w K mg base CX0 3 Y.a_holds Y.d_holds zbV (zdJ zJ zcK):=zk2 Y
 refine Y.all_hold.fn.okQ c_all_hold (λvs H Q E h=>?_) (λcdv A outer s H vs Q E hr h=>?_)
 ·obtain ⟨v,cs,pw,pm,vt,ws,ms,to,rfl,_⟩:=h;rfl
 ·obtain ⟨v,cs,pw,pm,vt,ws,ms,to,rfl,hd,hcs,hpw,hpm,hto,nw,nm,w1,lw,lm,q⟩:=h
  obtain⟨pc,uc,rfl,hpc,rc,_⟩:=hd.ofT
  refine⟨_,(zf (zbw PassesOwn.never rfl (zc3 (qv 0)) (zr 4 c_all_hold.nd) (zk (zaQ (zkW (zlv (zj G_holds (hr.mono (by decide)) Y.holds.mg Y.holds.kp Y.holds.b .nil zo (za (qv 4) (za (qv 1) (za (qv 2) (za (qv 3) zd))))))) (zk (zx zgS)) z8)))
   (zk (zx zgS))),?_⟩
  refine vr rfl ⟨pc,rfl,⟨_, .inl (.inl hpc)⟩,?_⟩
  refine zaK (zb5 (K:=K) (xs:=uc)) (λi σ' H'=>(∃o4,σ'=[some (.ref pc),some (.ref pw),some (.ref pm),some vt,o4])/\(cs.take i).all (zcK ws ms to)=true/\Same H H') ⟨⟨_,rfl⟩,rfl,Same.refl _⟩ (λi σ' H' z=> .inl (.inl (z.2.2 _ _ hpc))) ?_ ?_
  ·rintro i y σ' H1 hi hy ⟨⟨o4,rfl⟩,ha,s1⟩
   obtain⟨c,hc,rcc⟩:=rc.get hy
   have hcm:=List.mem_of_getElem? hc
   have tk:(cs.take (i+1)).all (zcK ws ms to)=((cs.take i).all (zcK ws ms to)&&zcK ws ms to c):=by
    rw[List.take_add_one,hc,List.all_append];simp
   refine vr rfl (vr rfl (vr rfl (vr rfl (ex8 y c pw pm vt ws ms to ⟨rfl,rcc.same s1,hcs c hcm,s1 _ _ hpw,s1 _ _ hpm,hto,nw,nm,w1,lw,lm,λH2 s2=>(vr rfl ?_)⟩))))
   cases hb:zcK ws ms to c with
   |false=>
    have e:zeA ws ms to cs=false:=List.all_eq_false.mpr ⟨c,hcm,by rw[hb];decide⟩
    have q:=q H2 (s1.trans s2)
    rw[e] at q
    exact zbA rfl q
   |true=>exact zbM rfl ⟨⟨_,rfl⟩,by rw[tk,ha,hb];rfl,s1.trans s2⟩
  ·rintro σ' H1 ⟨⟨o4,rfl⟩,ha,s1⟩
   rw[rc.1,List.take_length] at ha
   have q:=q H1 s1
   have e:zeA ws ms to cs=true:=ha
   rw[e] at q
   exact q
theorem zfS(Y:Ev K mg):FnOk P w K mg base CX0 1 Y.a_likings_of Y.d_likings_of zbm zpV:=by
 refine Y.likings_of.fn.okQ zgW (λvs H Q E h=>?_) (λcdv A outer s H vs Q E hr h=>?_)
 ·obtain ⟨v,x,g,hs,ps,lks,hds,j,rfl,_⟩:=h;rfl
 ·obtain ⟨v,x,g,hs,ps,lks,hds,j,rfl,hv,T,hj,q⟩:=h
  obtain⟨p,pr,pt,pl,pa,vt,vl,va,rfl,hp,hpr,hpt,rt,hpl,rl,hpa,ra⟩:=zeM hv
  have hjl:j<hs.length:=by
   rcases Nat.lt_or_ge j hs.length with y|y
   ·exact y
   ·rw[List.getElem?_eq_none y] at hj;cases hj
  have hjk:j<lks.length:=by rw[T.ll];exact hjl
  have hjv:j<vl.length:=by rw[rl.1];exact hjk
  refine⟨_,(zk (zx (zM ix_tup (zM ix_tup (qv 0) zg) (zfr PySem.F.plainAttrs_tuple PySem.F.slot_tuple_index PySem.F.type_tuple_index zgu (zM ix_tup (qv 0) zg) (za (qv 1) zd))))),?_⟩
  refine vr rfl (ixT hp (zI (j:=3) rfl) ?_)
  refine vr rfl (ixT hp (zI (j:=1) rfl) ?_)
  refine⟨.inr (.inr (.inr (.inr ⟨rfl,_,hpr⟩))),vr rfl (ex4 pr hs x j ⟨rfl,rfl, .inl (.inl hpr),hj,zhE T.hs_nd hj,?_⟩)⟩
  exact⟨pl,_,_,vl[j],rfl,rfl, .inl (.inl hpl),zI (by simp[hjv]),q _ lks[j] (List.getElem?_eq_getElem hjk) (rl.2 j _ _ (List.getElem?_eq_getElem hjv) (List.getElem?_eq_getElem hjk))⟩
theorem zil(Y:Ev K mg):FnOk P w K mg base CX0 5 Y.a_worth Y.d_worth zdf zgZ:=by
 have G_all_hold:FnOk P w K mg base CX0 4 Y.a_all_hold Y.d_all_hold za4 ziV:=zem Y
 have G_likings_of:FnOk P w K mg base CX0 1 Y.a_likings_of Y.d_likings_of zbm zpV:=zfS Y
 refine Y.worth.fn.okQ c_worth (λvs H Q E h=>?_) (λcdv A outer s H vs Q E hr h=>?_)
 ·obtain ⟨v,pw,pm,x,ws,ms,g,hs,ps,lks,hds,j,rs,rfl,_⟩:=h;rfl
 ·obtain ⟨v,pw,pm,x,ws,ms,g,hs,ps,lks,hds,j,rs,rfl,hv,T,hj,hlj,hpw,hpm,nw,nm,lw,lm,q⟩:=h
  have hlk:rs.length<=90/\∀r∈rs,zL r=true:=by
   have h:=T.likes _ (List.mem_of_getElem? hlj)
   have h:(decide (rs.length<=90)&&rs.all zL)=true:=h
   rw[Bool.and_eq_true] at h
   exact⟨of_decide_eq_true h.1,List.all_eq_true.mp h.2⟩
  refine⟨_,(zf (zbw PassesOwn.never rfl (zc3 (zj G_likings_of (hr.mono (by decide)) Y.likings_of.mg Y.likings_of.kp Y.likings_of.b .nil zo (za (qv 0) (za (zM ix_tup (qv 1) zg) zd)))) (zcO 2 rfl (zv (zr 3 c_worth.nd) (zv (zr 4 c_worth.nd) zbu))) (zk (zaQ (zlv (zj G_all_hold (hr.mono (by decide)) Y.all_hold.mg Y.all_hold.kp Y.all_hold.bd (.cons (a:=V.non) rfl .nil) zo (za (qv 3) (za (qv 1) (za (qv 2) zd))))) (zk (zx (qv 4))) z8)))
   (zk (zx zg))),?_⟩
  refine vr rfl (vr rfl (ixT hpw at0 (ex8 v x g hs ps lks hds j ⟨rfl,hv,T,hj,λvr d hd rd=>?_⟩)))
  rw[hlj] at hd
  cases hd
  obtain⟨pq,us,rfl,hpq,ru,_⟩:=rd.ofT
  refine⟨pq,rfl,⟨_, .inl (.inl hpq)⟩,?_⟩
  refine zaK (zb5 (K:=K) (xs:=us)) (λi σ' H'=>(∃o3 o4,σ'=[some v,some (.ref pw),some (.ref pm),o3,o4])/\zP (x::ws) ms rs=zP (x::ws) ms (rs.drop i)/\Same H H') ⟨(ex2 _ _ rfl),rfl,Same.refl _⟩ (λi σ' H' z=> .inl (.inl (z.2.2 _ _ hpq))) ?_ ?_
  ·rintro i y σ' H1 hi hy ⟨⟨o3,o4,rfl⟩,hw,s1⟩
   obtain⟨r,hr',rr⟩:=ru.get hy
   obtain⟨cs,t,rfl,c4,hcs,ht⟩:=zgo (hlk.2 r (List.mem_of_getElem? hr'))
   obtain⟨q0,v0,v1,rfl,hq0,r0,r1⟩:=(rr.same s1).of2
   refine ex2 q0 _ ⟨rfl, .inl (.inl hq0),rfl,ex2 _ _ ⟨rfl,ex2 _ _ ⟨rfl,rfl,?_⟩⟩⟩
   refine vr rfl (vr rfl (vr rfl (ex8 v0 cs pw pm (.non) (x::ws) ms none ⟨rfl,r0,hcs,s1 _ _ hpw,s1 _ _ hpm, .inl ⟨rfl,rfl⟩,nw,nm,by simp,by simp;omega,lm,λH2 s2=>(vr rfl ?_)⟩)))
   rw[zjm hr',zP] at hw
   have er:zeA (x::ws) ms none (zhU (.tup [.tup cs,t]))=zeA (x::ws) ms none cs:=rfl
   rw[er] at hw
   cases hb:zeA (x::ws) ms none cs with
   |true=>
    rw[hb,if_pos rfl] at hw
    exact zbA rfl (vr rfl (q _ H2 (by rw[hw];exact r1.same s2) (s1.trans s2)))
   |false=>
    rw[hb,if_neg (by decide)] at hw
    exact zbM rfl ⟨(ex2 _ _ rfl),hw,s1.trans s2⟩
  ·rintro σ' H1 ⟨⟨o3,o4,rfl⟩,hw,s1⟩
   rw[ru.1,List.drop_length,zP] at hw
   exact q _ H1 (by rw[hw];exact .int 0) s1
theorem zh2(Y:Ev K mg):FnOk P w K mg base CX0 1 Y.a_hands_of Y.d_hands_of zb9 zpO:=by
 refine Y.hands_of.fn.okQ zi0 (λvs H Q E h=>?_) (λcdv A outer s H vs Q E hr h=>?_)
 ·obtain ⟨v,x,g,hs,ps,lks,hds,j,rfl,_⟩:=h;rfl
 ·obtain ⟨v,x,g,hs,ps,lks,hds,j,rfl,hv,T,hj,q⟩:=h
  obtain⟨p,pr,pt,pl,pa,vt,vl,va,rfl,hp,hpr,hpt,rt,hpl,rl,hpa,ra⟩:=zeM hv
  have hjl:j<hs.length:=by
   rcases Nat.lt_or_ge j hs.length with y|y
   ·exact y
   ·rw[List.getElem?_eq_none y] at hj;cases hj
  have hjk:j<hds.length:=by rw[T.lh];exact hjl
  have hjv:j<va.length:=by rw[ra.1];exact hjk
  refine⟨_,(zk (zx (zM ix_tup (zM ix_tup (qv 0) zg) (zfr PySem.F.plainAttrs_tuple PySem.F.slot_tuple_index PySem.F.type_tuple_index zgu (zM ix_tup (qv 0) zg) (za (qv 1) zd))))),?_⟩
  refine vr rfl (ixT hp (zI (j:=4) rfl) ?_)
  refine vr rfl (ixT hp (zI (j:=1) rfl) ?_)
  refine⟨.inr (.inr (.inr (.inr ⟨rfl,_,hpr⟩))),vr rfl (ex4 pr hs x j ⟨rfl,rfl, .inl (.inl hpr),hj,zhE T.hs_nd hj,?_⟩)⟩
  exact⟨pa,_,_,va[j],rfl,rfl, .inl (.inl hpa),zI (by simp[hjv]),q _ hds[j] (List.getElem?_eq_getElem hjk) (ra.2 j _ _ (List.getElem?_eq_getElem hjv) (List.getElem?_eq_getElem hjk))⟩
theorem zeC(Y:Ev K mg):FnOk P w K mg base CX0 1 Y.a_marks_behind Y.d_marks_behind zaP zf6:=by
 refine Y.marks_behind.fn.okQ c_marks_behind (λvs H Q E h=>?_) (λcdv A outer s H vs Q E hr h=>?_)
 ·obtain ⟨pm,v,t,w',m,rfl,_⟩:=h;rfl
 ·obtain ⟨pm,v,t,w',m,rfl,hpm,hv,tn,mn,l13,q⟩:=h
  obtain⟨pa,v0,v1,rfl,hpa,r0,r1⟩:=hv.of2
  cases r0 with|str _ _=>
  cases r1 with|str _ _=>
  refine⟨_,(zf (zcP (qv 1) (zcO 2 rfl (zv (zr 2 c_marks_behind.nd) (zv (zjZ 3 c_marks_behind.nd) zbu))))
   (zf (zcx 4 (src:=[none,some 3]) o_marks_behind_1 rfl rfl c_marks_behind.nd (zc3 (qv 0)) (λ_ _ _ _ _=>(zr 0 o_marks_behind_1.nd)) (λ_ _ _ _ _=>(zgg (zB zhS (qv 0) (qc 1)))) (λ_ _ _ _ _=>(qv 0)))
   (zf (zaQ (zB zaL (qv 2) za3) (zk (zcm (zfr PySem.F.plainAttrs_list PySem.F.slot_list_append PySem.F.type_list_append zaS (qv 4) (za (qc 3) zd)))) z8)
   (zk (zx (z5 zO Y.tuple zbq (za (zH zdT Y.sorted zcs (za (qv 4) zd)) zd))))))),?_⟩
  refine vr rfl (ex2 pa _ ⟨rfl, .inl (.inl hpa),rfl,ex2 _ _ ⟨rfl,ex2 _ _ ⟨rfl,rfl,?_⟩⟩⟩)
  refine vr rfl ⟨pm,rfl,⟨_, .inl (.inl hpm)⟩,?_⟩
  refine zjs (g:=neD m) (f:=λd=>d) (σr:=[some (.str m)]) (zb5 (K:=K)) (λH' s'=> .inl (.inl (s' _ _ hpm))) (zhQ λy hy=>zas (tn y hy)) (by rw[List.length_map];omega) rfl ?_ (λx d HA sA rx hd=>by walk_at "dsp") λl1 us H1 s1 hl1 e1 r1=>?_
  ·intro z d HA Q1 sA rz hd q1
   obtain⟨b,_,rfl⟩:=List.mem_map.mp hd
   cases rz with|str _ _=>
   refine vr rfl (vr rfl ⟨rfl,vr rfl ?_⟩)
   rw[zbR]
   exact q1 HA (Same.refl _)
  rw[zo2] at r1
  have eus:=zgr r1
  subst eus
  have lf:=List.length_filter_le (λx=>!decide (x=m)) t
  dsimp only[zcw]
  have fin:∀(H2:Hp),H2 l1=some (.lst ((zbB t w' m).map V.str))->Same H H2->∀(ss:List Str) (l2:Addr),ss.Perm (zbB t w' m)->sortedS ss=true->H2 l2=none->∃p ys,[V.ref l2]=[.ref p]/\((SqL K (upd H2 l2 (.lst (ss.map V.str))) p ys/\∀l,upd H2 l2 (.lst (ss.map V.str)) l=none->Q (.ref l) (upd (upd H2 l2 (.lst (ss.map V.str))) l (.tup ys)))\/(SqT K (upd H2 l2 (.lst (ss.map V.str))) p ys/\Q (.ref p) (upd H2 l2 (.lst (ss.map V.str))))):=λH2 e2 s2 ss l2 hp2 hs2 hl2=>⟨l2,_,rfl, .inl ⟨SqL.of zb,λp hp=>by
   have es:=zna hp2 hs2
   subst es
   exact q p _ zb ((s2.trans (Same.new hl2)).trans (Same.new hp))⟩⟩
  refine vr rfl ⟨rfl,vr rfl (zcn (λe=>?_) (λe=>?_))⟩
  ·have ew:=V.str.inj (of_decide_eq_true e)
   have eb:zbB t w' m=t.filter (λx=>!decide (x=m))++ [m]:=by unfold zbB;rw[if_pos ew]
   refine vr rfl ⟨.inl ⟨rfl,_,SqL.of e1⟩,vr rfl (ex3 l1 _ _ ⟨rfl,rfl,e1,zm (by rw[List.length_map];omega),?_⟩)⟩
   have e2:(upd H1 l1 (.lst ((t.filter λx=>!decide (x=m)).map V.str ++ [V.str m]))) l1=some (.lst ((zbB t w' m).map V.str)):=by rw[zb,eb,List.map_append];rfl
   have s2:Same H (upd H1 l1 (.lst ((t.filter λx=>!decide (x=m)).map V.str ++ [V.str m]))):=λc o z=>by rw[ze (zh z hl1)];exact s1 _ _ z
   generalize (upd H1 l1 (HO.lst ((t.filter λx=>!decide (x=m)).map V.str ++ [V.str m])))=H2 at *
   exact vr rfl ⟨l1,zbB t w' m,rfl, .inl (SqL.of e2),by rw[eb,List.length_append,List.length_singleton];omega,fin H2 e2 s2⟩
  ·have ew:¬w'="put":=λz=>e (decide_eq_true (by rw[z]))
   have eb:zbB t w' m=t.filter (λx=>!decide (x=m)):=by unfold zbB;rw[if_neg ew,List.append_nil]
   have e2:H1 l1=some (.lst ((zbB t w' m).map V.str)):=by rw[eb];exact e1
   exact vr rfl ⟨l1,zbB t w' m,rfl, .inl (SqL.of e2),by rw[eb];omega,fin H1 e2 s1⟩
theorem zja(Y:Ev K mg):FnOk P w K mg base CX0 5 Y.a_handed Y.d_handed zc6 zgl:=by
 have G_all_hold:FnOk P w K mg base CX0 4 Y.a_all_hold Y.d_all_hold za4 ziV:=zem Y
 have G_hands_of:FnOk P w K mg base CX0 1 Y.a_hands_of Y.d_hands_of zb9 zpO:=zh2 Y
 have G_marks_behind:FnOk P w K mg base CX0 1 Y.a_marks_behind Y.d_marks_behind zaP zf6:=zeC Y
 refine Y.handed.fn.okQ c_handed (λvs H Q E h=>?_) (λcdv A outer s H vs Q E hr h=>?_)
 ·obtain ⟨v,pw,pm,vt,x,ws,ms,to,g,hs,ps,lks,hds,j,rs,Pr,rfl,_⟩:=h;rfl
 ·obtain ⟨v,pw,pm,vt,x,ws,ms,to,g,hs,ps,lks,hds,j,rs,Pr,rfl,hv,T,hj,hdj,HO',MS,M0,hpw,hpm,hto,nw,lw,q⟩:=h
  refine⟨_,(zf (zw 4 c_handed.nd (qv 2))
   (zf (zbw PassesOwn.never rfl (zc3 (zj G_hands_of (hr.mono (by decide)) Y.hands_of.mg Y.hands_of.kp Y.hands_of.b .nil zo (za (qv 0) (za (zM ix_tup (qv 1) zg) zd)))) (zcO 2 rfl (zv (zr 5 c_handed.nd) (zv (zr 6 c_handed.nd) zbu))) (zf (zaQ (zkW (zlv (zj G_all_hold (hr.mono (by decide)) Y.all_hold.mg Y.all_hold.kp Y.all_hold.b .nil zo (za (qv 5) (za (qv 1) (za (qv 4) (za (qv 3) zd))))))) (zk zk4) z8)
   (zf (zaQ (zB zaL (zM ix_tup (qv 6) zg) za3) (zk (zx zch)) z8)
   (zk (zw 4 c_handed.nd (zj G_marks_behind (hr.mono (by decide)) Y.marks_behind.mg Y.marks_behind.kp Y.marks_behind.b .nil zo (za (qv 4) (za (qv 6) zd))))))))
   (zk (zx (qv 4))))),?_⟩
  refine vr rfl ?_
  refine vr rfl (vr rfl (ixT hpw at0 (ex8 v x g hs ps lks hds j ⟨rfl,hv,T,hj,λvr d hd rd=>?_⟩)))
  rw[hdj] at hd
  cases hd
  obtain⟨pq,us,rfl,hpq,ru,_⟩:=rd.ofT
  refine⟨pq,rfl,⟨_, .inl (.inl hpq)⟩,?_⟩
  refine zaK (zb5 (K:=K) (xs:=us)) (λi σ' H'=>(∃pt t o5 o6,σ'=[some v,some (.ref pw),some (.ref pm),some vt,some (.ref pt),o5,o6]/\H' pt=some (.tup (t.map V.str))/\Pr i t/\zR (x::ws) to rs ms=zR (x::ws) to (rs.drop i) t)/\Same H H') ⟨(ex4 pm ms _ _ ⟨rfl,hpm,M0,rfl⟩),Same.refl _⟩ (λi σ' H' z=> .inl (.inl (z.2 _ _ hpq))) ?_ ?_
  ·rintro i y σ' H1 hi hy ⟨⟨pt,t,o5,o6,rfl,hpt,Mt,he⟩,s1⟩
   obtain⟨r,hr',rr⟩:=ru.get hy
   obtain⟨cs,xa,rfl,hcs,hx⟩:=HO'.2 r (List.mem_of_getElem? hr')
   obtain⟨q0,v0,v1,rfl,hq0,r0,r1⟩:=(rr.same s1).of2
   have lu:=ru.1
   obtain⟨tn,tl⟩:=MS.ok i t (by omega) Mt
   refine ex2 q0 _ ⟨rfl, .inl (.inl hq0),rfl,ex2 _ _ ⟨rfl,ex2 _ _ ⟨rfl,rfl,?_⟩⟩⟩
   refine vr rfl (vr rfl (vr rfl (vr rfl (ex8 v0 cs pw pt vt (x::ws) t to ⟨rfl,r0,hcs,s1 _ _ hpw,hpt,hto,nw,tn,by simp,by simp;omega,Nat.le_trans tl (by decide),λH2 s2=>(vr rfl ?_)⟩))))
   rw[zjm hr',zR] at he
   have er:zeA (x::ws) t to (zhU (.tup [.tup cs,xa]))=zeA (x::ws) t to cs:=rfl
   have et:zme (.tup [.tup cs,xa])=xa:=rfl
   rw[er,et] at he
   cases hb:zeA (x::ws) t to cs with
   |false=>
    rw[hb,if_neg (by decide)] at he
    exact zbA rfl ⟨(ex4 pt t _ _ ⟨rfl,s2 _ _ hpt,MS.skip i t Mt,he⟩),s1.trans s2⟩
   |true=>
    rw[hb,if_pos rfl] at he
    refine zbM rfl ?_
    rcases hx with rfl|⟨w1,m1,rfl,hw1,hm1⟩
    ·obtain ⟨pa,ua,rfl,hpa,ra',_⟩:=(r1.same s2).ofT
     have la:ua.length=1:=ra'.1
     obtain⟨u0,rfl⟩:∃u0,ua=[u0]:=by
      match ua,la with
      |[u0],_=>exact ⟨u0,rfl⟩
     have h0:=ra'.head.1
     cases h0 with|str _ _=>
     refine vr rfl (ixT hpa at0 ⟨rfl,vr rfl (zbA (by rw[decide_eq_true rfl]) ?_)⟩)
     exact q .non H2 (by rw[he];rfl) (s1.trans s2)
    ·obtain ⟨pa,z0,z1,rfl,hpa,rz0,rz1⟩:=(r1.same s2).of2
     cases rz0 with|str _ _=>
     have nk:decide (V.str w1=V.str "keep")=false:=by
      rw[zbR]
      rcases hw1 with rfl|rfl<;>decide +kernel
     refine vr rfl (ixT hpa at0 ⟨rfl,vr rfl (zbM nk ?_)⟩)
     refine vr rfl (vr rfl (ex4 pt (.ref pa) t w1 ⟨m1,rfl,s2 _ _ hpt,r1.same s2,tn,hm1,tl,λp3 H3 e3 s3=>?_⟩))
     exact⟨(ex4 p3 _ _ _ ⟨rfl,e3,MS.next i t w1 m1 cs Mt hr',he⟩),(s1.trans s2).trans s3⟩
  ·rintro σ' H1 ⟨⟨pt,t,o5,o6,rfl,hpt,Mt,he⟩,s1⟩
   rw[ru.1,List.drop_length,zR] at he
   exact vr rfl (q _ H1 (by rw[he];exact⟨pt,rfl,hpt⟩) s1)
end
section
variable{P:Program}{w:World}{K:PySem.W.Frag}{mg:Str->Option Value}{base:Heap}
noncomputable def zeg:Sp:=λvs H Q _=>∃(v:V) (x:Str) (g:Str) (hs:List Str) (ps:List (Str×Str)) (lks hds:List D),vs=[v, .str x]/\Rep H v (zar g hs ps lks hds)/\TownOk g hs ps lks hds/\∀(l:Addr) (ts:List Str) (H':Hp),H l=none->H' l=some (.lst (ts.map V.str))->ts.Perm (zey ps x)->sortedS ts=true->Same H H'->Q (.ref l) H'
theorem zdE(Y:Ev K mg):FnOk P w K mg base CX0 1 Y.a_tied Y.d_tied zcD zeg:=by
 refine Y.tied.fn.okQ c_tied (λvs H Q E h=>?_) (λcdv A outer s H vs Q E hr h=>?_)
 ·obtain ⟨v,x,g,hs,ps,lks,hds,rfl,_⟩:=h;rfl
 ·obtain ⟨v,x,g,hs,ps,lks,hds,rfl,hv,T,q⟩:=h
  obtain⟨p,pr,pt,pl,pa,vt,vl,va,rfl,hp,hpr,hpt,rt,hpl,rl,hpa,ra⟩:=zeM hv
  have TP:=T.lp
  refine⟨_,(zf (zw 2 c_tied.nd (zM ix_tup (qv 0) zg))
   (zk (zx (zH zdT Y.sorted zcs (za (zz ziB (zcI (src:=[none,none,some 1]) o_tied_1 rfl rfl (zc3 (qv 2)) (λ_ _ _ _ _=>(ziH (K:=K) 2 rfl rfl (zv (zr 0 o_tied_1.nd) (zv (zr 1 o_tied_1.nd) zbu)))) (λ_ _ _ _ _=>(zgg (zB zaL (qv 1) (qc 2)))) (λ_ _ _ _ _=>(qv 0))) (zcI (src:=[none,none,some 1]) o_tied_2 rfl rfl (zc3 (qv 2)) (λ_ _ _ _ _=>(ziH (K:=K) 2 rfl rfl (zv (zr 0 o_tied_2.nd) (zv (zr 1 o_tied_2.nd) zbu)))) (λ_ _ _ _ _=>(zgg (zB zaL (qv 0) (qc 2)))) (λ_ _ _ _ _=>(qv 1)))) zd))))),?_⟩
  refine vr rfl (ixT hp (zI (j:=2) rfl) ?_)
  refine vr rfl ⟨pt,rfl,⟨_, .inl (.inl hpt)⟩,?_⟩
  refine zhz (ps:=ps) (sel:=λp=>decide (p.2=x)) (f:=(·.1)) (λσ'=>∃o1 o2,σ'=[o1,o2,some (.str x)]) (zb5 (K:=K)) (λH' s'=> .inl (.inl (s' _ _ hpt))) rt (by omega) (ex2 _ _ rfl) ?_ λl1 H1 s1 hl1 e1=>?_
  ·rintro q p σ' H1 A B ⟨o1,o2,rfl⟩ s1 hq hp1 k
   refine ex2 q _ ⟨rfl, .inl (.inl hq),rfl,ex2 _ _ ⟨rfl,ex2 _ _ ⟨rfl,rfl,vr rfl (vr rfl ⟨rfl,vr rfl ?_⟩)⟩⟩⟩
   have k:=k [some (.str p.1),some (.str p.2),some (.str x)] ⟨_,_,rfl⟩
   rw[zbR]
   cases e:decide (p.2=x)with
   |false=>rw[e] at k;exact k
   |true=>rw[e] at k;exact⟨_,rfl,k⟩
  refine vr rfl ⟨pt,rfl,⟨_, .inl (.inl (s1 _ _ hpt))⟩,?_⟩
  refine zhz (ps:=ps) (sel:=λp=>decide (p.1=x)) (f:=(·.2)) (λσ'=>∃o1 o2,σ'=[o1,o2,some (.str x)]) (zb5 (K:=K)) (λH' s'=> .inl (.inl (s' _ _ (s1 _ _ hpt)))) (rt.mono (.of s1)) (by omega) (ex2 _ _ rfl) ?_ λl2 H2 s2 hl2 e2=>?_
  ·rintro q p σ' H1 A B ⟨o1,o2,rfl⟩ s1 hq hp1 k
   refine ex2 q _ ⟨rfl, .inl (.inl hq),rfl,ex2 _ _ ⟨rfl,ex2 _ _ ⟨rfl,rfl,vr rfl (vr rfl ⟨rfl,vr rfl ?_⟩)⟩⟩⟩
   have k:=k [some (.str p.1),some (.str p.2),some (.str x)] ⟨_,_,rfl⟩
   rw[zbR]
   cases e:decide (p.1=x)with
   |false=>rw[e] at k;exact k
   |true=>rw[e] at k;exact⟨_,rfl,k⟩
  have nl:=zcY T x
  have nl':((ps.filter λp=>decide (p.2=x)).map (·.1)).length+((ps.filter λp=>decide (p.1=x)).map (·.2)).length<=10:=by rw[←List.length_append];exact nl
  refine ex4 l1 l2 _ _ ⟨rfl,rfl,s2 _ _ e1,e2,Nat.le_of_lt (zm (by simp only[List.length_map] at nl'⊢;omega)),λl3 hl3=>?_⟩
  rw[←List.map_append]
  have S3:=Same.new (o:= .lst ((zey ps x).map V.str)) hl3
  refine⟨l3,zey ps x,rfl, .inl (SqL.of zb),by omega,λts l4 hp4 hs4 hl4=>q l4 ts _ ?_ zb hp4 hs4 (((s1.trans s2).trans S3).trans (Same.new hl4))⟩
  exact zbp ((s1.trans s2).trans S3) hl4
end
section
variable{P:Program}{w:World}{K:PySem.W.Frag}{mg:Str->Option Value}{base:Heap}
noncomputable def zjx(K:PySem.W.Frag):Sp:=λvs H Q _=>∃(b:Addr) (ns:List Int),vs=[.ref b]/\SqL K H b (ns.map V.int)/\ns.length<=63/\∀a H',H a=none->Hand H' a 0->Same H H'->Q (.ref a) H'
theorem zgT{x:Int}{n:Nat}(h0:0<=x)(h1:x<2^n)(hn:n<=20000):Builtin.Int.intBits x<=2^20:=by
 unfold Builtin.Int.intBits
 split
 ·exact Nat.zero_le _
 ·rename_i hz
  have hz:x≠0:=by simpa using hz
  have:x.natAbs<2^n:=by
   have e:((2^n:Nat):Int)=(2:Int)^n:=by push_cast;rfl
   omega
  have h2:x.natAbs.log2<n:=(Nat.log2_lt (by omega)).mpr this
  have h3:(20000:Nat)<=2^20:=by decide
  omega
theorem ziw{a b:Int}{p q:Nat}(h0:0<=a)(h1:a<2^p)(h2:0<b)(h3:b<2^q):a*b<2^(p+q):=by
 have e1:a*b<2^p*b:=Int.mul_lt_mul_of_pos_right h1 h2
 have e2:(2:Int)^p*b<=2^p*2^q:=Int.mul_le_mul_of_nonneg_left (Int.le_of_lt h3) (ziK p)
 have e3:(2:Int)^(p+q)=2^p*2^q:=Int.pow_add 2 p q
 rw[e3];exact Int.lt_of_lt_of_le e1 e2
theorem zkT(Y:Ev K mg):FnOk P w K mg base CX0 2 Y.a__law_all Y.d__law_all zcb (zjx K):=by
 have G__law_hand:FnOk P w K mg base CX0 1 Y.a__law_hand Y.d__law_hand zbJ (zlr K):=zmD Y
 refine Y._law_all.fn.okQ c__law_all (λvs H Q E h=>?_) (λcdv A outer s H vs Q E hr h=>?_)
 ·obtain ⟨b,ns,rfl,_⟩:=h;rfl
 ·obtain ⟨b,ns,rfl,hS,hns,q⟩:=h
  refine⟨_,(zf (zw 1 c__law_all.nd (zj G__law_hand (hr.mono (by decide)) Y._law_hand.mg Y._law_hand.kp Y._law_hand.b .nil zo (za (qv 0) (za zg zd))))
   (zf (zw 2 c__law_all.nd (zz zbS (zM ix_list (qv 1) zg) (zz zec zg zg)))
   (zf (zw 3 c__law_all.nd (zz zec zg zg))
   (zf (zbw PassesOwn.never rfl (zlQ Y.range (za zg (za (zH (zek rfl) Y.min zed (za (zH zaH Y.len zco (za (qv 0) zd)) (za zg zd))) zd))) (zr 4 c__law_all.nd) (zf (zw 5 c__law_all.nd (zj G__law_hand (hr.mono (by decide)) Y._law_hand.mg Y._law_hand.kp Y._law_hand.b .nil zo (za (qv 0) (za (qv 4) zd))))
   (zf (zw 2 c__law_all.nd (zz z7 (qv 2) (zz zjL (zz zbS (zM ix_list (qv 5) zg) (zz zec zg zg)) (qv 3))))
   (zf (zw 3 c__law_all.nd (zz zjL (qv 3) (zz zec zg zg)))
   (zk (zcP (zz zbS (zz z7 (zz za5 (zM ix_list (qv 1) zg) zg) (zM ix_list (qv 5) zg)) zg) (zin (qv 1) zg zcV)))))))
   (zeU (zaQ (zB zjd (zM ix_list (qv 1) zg) zg) (zk (zcP (qv 2) (zin (qv 1) zg zcV))) z8)
   (zk (zx (qv 1)))))))),?_⟩
  have cp:zoo 10 60:=⟨by decide,by decide,by decide⟩
  have p60:(10:Int)^(60:Int).toNat<2^200:=by decide +kernel
  have p0:(0:Int)<(10:Int)^(60:Int).toNat:=by decide +kernel
  refine vr rfl (ex3 b ns 0 ⟨rfl,hS,by decide,by decide,λa H1 ha hH1 s1=>?_⟩)
  obtain⟨x,m,t,h1,m0,m1,t0,t1⟩:=hH1
  refine⟨_,rfl,a,_,0,_,rfl,rfl,SqL.of h1,at0,_,_,rfl,rfl,cp,_,_,rfl,rfl,p0,?_⟩
  refine ex2 _ _ ⟨rfl,rfl,cp,?_⟩
  refine vr rfl (.inl (ex2 b _ ⟨rfl, .inl (s1.seq hS),ex2 _ _ ⟨rfl,ex2 1 _ ⟨rfl,⟨by decide,by decide,by split<;>omega,by split<;>omega⟩,?_⟩⟩⟩))
  refine zaK zcl (λi σ' H'=>∃(o4 o5:Option V) (dg far m:Int),σ'=[some (.ref b),some (.ref a),some (.int dg),some (.int far),o4,o5]/\0<=far/\far<2^(200*(i+1))/\H' a=some (.lst [.int x, .int m, .int t])/\0<=m/\m<2^63/\Same H H') ?_ (λ_ _ _ _=>trivial) ?_ ?_
  ·exact ex4 _ _ _ _ ⟨m,rfl,Int.le_of_lt p0,p60,h1,m0,m1,s1⟩
  ·rintro i y σ' H2 hi rfl ⟨o4,o5,dg,far,m,rfl,f0,f1,h2,m0,m1,s2⟩
   have hi63:i<63:=by
    refine Nat.lt_of_lt_of_le hi ?_
    rw[List.length_map]
    split<;>omega
   refine vr rfl (vr rfl (ex3 b ns _ ⟨rfl,s2.seq hS,by omega,by omega,λa2 H3 ha2 hH3 s3=>?_⟩))
   obtain⟨x3,m3,t3,h3,n0,n1,_,_⟩:=hH3
   have h2':=s3 _ _ h2
   have b1:Builtin.Int.intBits (x3%(10:Int)^(60:Int).toNat)<=2^20:=zgT (n:=200) (Int.emod_nonneg _ (Int.ne_of_gt p0)) (Int.lt_trans (Int.emod_lt_of_pos _ p0) p60) (by decide)
   have b2:Builtin.Int.intBits far<=2^20:=zgT f0 f1 (by omega)
   have b3:Builtin.Int.intBits ((10:Int)^(60:Int).toNat)<=2^20:=zgT (n:=200) (Int.le_of_lt p0) p60 (by decide)
   refine⟨_,rfl,_,rfl,a2,_,0,_,rfl,rfl,SqL.of h3,at0,_,_,rfl,rfl,cp,_,_,rfl,rfl,p0,_,rfl,_,_,rfl,rfl,⟨b1,b2⟩,_,_,rfl,rfl,?_⟩
   refine⟨_,rfl,_,_,rfl,rfl,cp,_,_,rfl,rfl,⟨b2,b3⟩,?_⟩
   refine vr rfl (ixL h2' at1 (ex2 _ _ ⟨rfl,rfl, .inl ⟨by omega,by omega⟩,vr rfl (ixL h3 at1 (ex2 _ _ ⟨rfl,rfl,ex2 _ _ ⟨rfl,rfl,(by decide:(0:Int)<2305843009213693951),?_⟩⟩))⟩))
   refine vr rfl (ex4 a _ 1 1 ⟨rfl,rfl,h2',rfl,?_⟩)
   refine ex4 _ _ _ _ ⟨_,rfl,Int.mul_nonneg f0 (Int.le_of_lt p0),?_,zb,Int.emod_nonneg _ (by decide),?_,?_⟩
   ·have:=ziw f0 f1 p0 p60
    rw[show 200*(i+1+1)=200*(i+1)+200 by omega]
    exact this
   ·have:=Int.emod_lt_of_pos (m*48271+m3) (by decide:(0:Int)<2305843009213693951)
    exact Int.lt_trans this (by decide)
   ·exact λc o e=>by rw[ze (zh e ha)];exact s3 _ _ (s2 _ _ e)
  ·rintro σ' H2 ⟨o4,o5,dg,far,m,rfl,f0,f1,h2,m0,m1,s2⟩
   refine⟨λσ' H'=>∃(o2 o3 o4 o5:Option V),σ'=[some (.ref b),some (.ref a),o2,o3,o4,o5]/\Hand H' a 0/\Same H H',?_,?_⟩
   ·refine vr rfl (ixL h2 at0 (ex2 _ _ ⟨rfl,rfl,vr rfl (zcn (λ_=>?_) (λ_=>?_))⟩))
    ·refine vr rfl (vr rfl (ex4 a _ 0 0 ⟨rfl,rfl,h2,rfl,ex4 _ _ _ _ ⟨rfl,⟨_,m,t,zb,m0,m1,t0,t1⟩,?_⟩⟩))
     exact λc o e=>by rw[ze (zh e ha)];exact s2 _ _ e
    ·exact ex4 _ _ _ _ ⟨rfl,⟨x,m,t,h2,m0,m1,t0,t1⟩,s2⟩
   ·rintro σ' H3 ⟨o2,o3,o4,o5,rfl,hH3,s3⟩
    exact vr rfl (q a H3 ha hH3 s3)
end
section
variable{P:Program}{w:World}{K:PySem.W.Frag}{mg:Str->Option Value}{base:Heap}
theorem zp9{k:Nat}{A:Around}(r:Room k A):A.units+70<cLine:=by have:=r.un;omega
theorem zkI{a b c:V}:atI [a,b,c] (-1)=some c:=rfl
theorem zfI(Y:Ev K mg):FnOk P w K mg base CX0 6 Y.a_liking_key Y.d_liking_key zbt znT:=by
 have G_worth:FnOk P w K mg base CX0 5 Y.a_worth Y.d_worth zdf zgZ:=zil Y
 refine Y.liking_key.fn.okQ zgU (λvs H Q E h=>?_) (λcdv A outer s H vs Q E hr h=>?_)
 ·obtain ⟨v,pw,pm,x,ws,ms,g,hs,ps,lks,hds,j,rs,i,rfl,_⟩:=h;rfl
 ·obtain ⟨v,pw,pm,x,ws,ms,g,hs,ps,lks,hds,j,rs,i,rfl,hv,T,hj,hlj,hpw,hpm,nw,nm,lw,lm,hi,q⟩:=h
  refine⟨_,(zk (zx (zD (za (ziI zdy (zj G_worth (hr.mono (by decide)) Y.worth.mg Y.worth.kp Y.worth.b .nil zo (za (qv 0) (za (qv 1) (za (qv 2) zd))))) (za (zH zaH Y.len zco (za (qv 1) zd)) (za (qv 1) zd)))))),?_⟩
  refine⟨_,rfl,_,rfl,_,rfl,v,pw,pm,x,ws,ms,g,hs,ps,lks,hds,j,rs,rfl,hv,T,hj,hlj,hpw,hpm,nw,nm,lw,lm,λu H1 ru s1=>?_⟩
  rw[hi] at ru
  cases ru with|int _=>
  refine⟨_,rfl,_,rfl, .inl ⟨pw,_,rfl, .inr (.inl (.inl (s1 _ _ hpw))),_,rfl,few rfl,λpk hpk=>?_⟩⟩
  have S:=Same.new (o:= .tup [V.int (-i), .int (((x::ws).map V.str).length:Int), .ref pw]) hpk
  refine q _ _ ⟨pk,pw,rfl,?_,S _ _ (s1 _ _ hpw),λy hy=>zaj (nw y hy)⟩ (s1.trans S)
  rw[zb,List.length_map]
def PairO(H:Hp)(b:Addr)(e:WM):Prop:=∃pw pm,H b=some (.tup [.ref pw, .ref pm])/\H pw=some (.tup (e.1.map V.str))/\H pm=some (.tup (e.2.map V.str))
structure EOk(x:Str)(rs:List D)(e:WM):Prop where
 hd:∃ws,e.1=x::ws
 nw:∀y∈e.1,zi y=true
 nm:∀y∈e.2,zi y=true
 lw:e.1.length<=80
 lm:e.2.length<=100
 wt:zP e.1 e.2 rs= .int (wI rs e)
theorem AtG.mono{α:Type}{Oa:Hp->Addr->α->Prop}{H H':Hp}{vs:List V}{ps:List α}(h:AtG Oa H vs ps)(m:∀b p,Oa H b p->Oa H' b p):AtG Oa H' vs ps:=
 ⟨h.1,λi v p e1 e2=>let ⟨b,e,o⟩:=h.2 i v p e1 e2;⟨b,e,m b p o⟩⟩
theorem AtG.snoc{α:Type}{Oa:Hp->Addr->α->Prop}{H:Hp}{vs:List V}{ps:List α}{b:Addr}{p:α}(h:AtG Oa H vs ps)(o:Oa H b p):AtG Oa H (vs ++ [.ref b]) (ps ++ [p]):=by
 refine⟨by rw[List.length_append,List.length_append,h.1];rfl,λi v q e1 e2=>?_⟩
 rcases Nat.lt_or_ge i vs.length with z|z
 ·rw[List.getElem?_append_left z] at e1
  rw[List.getElem?_append_left (by rw[←h.1];exact z)] at e2
  exact h.2 i v q e1 e2
 ·rw[List.getElem?_append_right z] at e1
  rw[List.getElem?_append_right (by rw[←h.1];exact z),←h.1] at e2
  cases hk:i -vs.length with
  |zero=>rw[hk] at e1 e2;cases e1;cases e2;exact⟨b,rfl,o⟩
  |succ n=>rw[hk] at e1;cases e1
def WmAt(H:Hp)(x y:V):Option WM->Prop
 |none=>x= .non/\∃e,y= .ref e/\H e=some (.tup [])
 |some (w,ms)=>∃pw pm,x= .ref pw/\y= .ref pm/\H pw=some (.tup (w.map V.str))/\H pm=some (.tup (ms.map V.str))
theorem WmAt.mono{H H':Hp}{x y:V}{b:Option WM}(h:WmAt H x y b)(m:∀c xs,H c=some (.tup xs)->H' c=some (.tup xs)):WmAt H' x y b:=by
 match b,h with
 |none,⟨h1,e,h2,h3⟩=>exact ⟨h1,e,h2,m _ _ h3⟩
 |some (w,ms),⟨pw,pm,h1,h2,h3,h4⟩=>exact ⟨pw,pm,h1,h2,m _ _ h3,m _ _ h4⟩
def GoR(H:Hp)(g:Addr)(b:Option WM):Prop:=∃x y,H g=some (.tup [x,y])/\WmAt H x y b
theorem GoR.mono{H H':Hp}{g:Addr}{b:Option WM}(h:GoR H g b)(m:∀c xs,H c=some (.tup xs)->H' c=some (.tup xs)):GoR H' g b:=let⟨x,y,e,w⟩:=h;⟨x,y,m _ _ e,w.mono m⟩
theorem AtG.addrs{α:Type}{Oa:Hp->Addr->α->Prop}{H:Hp}{vs:List V}{ps:List α}(h:AtG Oa H vs ps):∃bs:List Addr,vs=bs.map V.ref/\bs.length=ps.length/\∀(i:Nat) (b:Addr) (p:α),bs[i]?=some b->ps[i]?=some p->Oa H b p:=by
 obtain⟨hl,h⟩:=h
 induction vs generalizing ps with
 |nil=>exact ⟨[],rfl,hl,λi b p e=>by cases e⟩
 |cons v vs ih=>
  cases ps with
  |nil=>cases hl
  |cons p ps=>
   obtain⟨b,rfl,o⟩:=h 0 v p rfl rfl
   obtain⟨bs,rfl,l,r⟩:=ih (by simpa using hl) λi v p e1 e2=>h (i+1) v p e1 e2
   refine⟨b::bs,rfl,by rw[List.length_cons,List.length_cons,l],λi b' p' e1 e2=>?_⟩
   cases i with
   |zero=>cases e1;cases e2;exact o
   |succ i=>exact r i b' p' e1 e2
def KmM(rs:List D)(H:Hp)(b:Addr)(e:WM):Prop:=∃t pm,H b=some (.tup [.ref t, .ref pm])/\KeyO H t (kE rs e)/\H pm=some (.tup (e.2.map V.str))
noncomputable def zpr:Sp:=λvs H Q _=>∃(v:V) (l:Addr) (us:List V) (es:List WM) (x:Str) (g:Str) (hs:List Str) (ps:List (Str×Str)) (lks hds:List D) (j:Nat) (rs:List D),vs=[v, .ref l]/\Rep H v (zar g hs ps lks hds)/\TownOk g hs ps lks hds/\hs[j]?=some x/\lks[j]?=some (.tup rs)/\H l=some (.lst us)/\AtG PairO H us es/\es.length<64/\(es.map (·.1)).Nodup/\(∀e∈es,EOk x rs e)/\
 ∀(q:Addr) (b:Option WM) (H':Hp),zgv rs es b->GoR H' q b->Same H H'->Q (.ref q) H'
theorem zfO(Y:Ev K mg):FnOk P w K mg base CX0 7 Y.a_most_liked Y.d_most_liked zbj zpr:=by
 have G_liking_key:FnOk P w K mg base CX0 6 Y.a_liking_key Y.d_liking_key zbt znT:=zfI Y
 refine Y.most_liked.fn.okQ c_most_liked (λvs H Q E h=>?_) (λcdv A outer s H vs Q E hr h=>?_)
 ·obtain ⟨v,l,us,es,x,g,hs,ps,lks,hds,j,rs,rfl,_⟩:=h;rfl
 ·obtain ⟨v,l,us,es,x,g,hs,ps,lks,hds,j,rs,rfl,hv,T,hj,hlj,hl,at1,h64,nde,eok,q⟩:=h
  have lu:us.length=es.length:=at1.1
  refine⟨_,(zf (zcx 2 (src:=[none,none,some 0]) o_most_liked_1 rfl rfl c_most_liked.nd (zcA (qv 1)) (λ_ _ _ _ _=>(ziH (K:=K) 2 rfl rfl (zv (zr 0 o_most_liked_1.nd) (zv (zr 1 o_most_liked_1.nd) zbu)))) (λ_ _ _ _ _=>zew) (λ_ _ _ _ _=>(zD (za (zj G_liking_key (hr.mono (by decide)) Y.liking_key.mg Y.liking_key.kp Y.liking_key.b .nil zo (za (qc 2) (za (qv 0) (za (qv 1) zd)))) (za (qv 1) zd)))))
   (zf (zaQ (zkW (zmO (qv 2))) (zk (zx (zD (za zch (za (zD zd) zd))))) z8)
   (zf (zcP (zH (ziS rfl (zp9 hr)) Y.min zed (za (qv 2) zd)) (zcO 2 rfl (zv (zr 3 c_most_liked.nd) (zv (zr 4 c_most_liked.nd) zbu))))
   (zk (zx (zD (za (zM ix_tup (qv 3) (ziI zdy zg)) (za (qv 4) zd)))))))),?_⟩
  refine zql λn e1=>?_
  refine⟨_,rfl,l,rfl,⟨_,SqL.of hl⟩,?_⟩
  refine zbv (zbX (K:=K) (xs:=us)) (λl' i ys σ' H'=>(∃o1 o2,σ'=[o1,o2,some v])/\AtG (KmM rs) H' ys (es.take i)/\Same H H') ?_ (λl' i ys σ' H' hl' z=>SqL.of (z.2.2 _ _ hl)) ?_ ?_
  ·exact λl' hl'=>⟨⟨_,_,rfl⟩,⟨rfl,λi v p e1 _=>by cases e1⟩,Same.new hl'⟩
  ·rintro l' i y0 ys σ' H1 hl' hi hy ⟨⟨o1,o2,rfl⟩,a1,s1⟩ hl1
   have hi':i<es.length:=by omega
   obtain⟨b,rfl,pw,pm,hb,hpw,hpm⟩:=at1.2 i y0 es[i] hy (List.getElem?_eq_getElem hi')
   have ee:=eok es[i] (List.getElem_mem hi')
   have tk:es.take (i+1)=es.take i ++ [es[i]]:=by rw[List.take_add_one,List.getElem?_eq_getElem hi'];rfl
   rw[tk]
   have ly:ys.length=i:=by have:=a1.1;rw[List.length_take] at this;omega
   generalize es[i]=e at *
   obtain⟨ew,em⟩:=e
   obtain⟨ws,rfl⟩:=ee.hd
   refine⟨b,_,rfl, .inl (.inl (s1 _ _ hb)),rfl,_,_,rfl,_,_,rfl,rfl,?_⟩
   refine⟨_,rfl,_,rfl,_,rfl,v,pw,pm,x,ws,em,g,hs,ps,lks,hds,j,rs,wI rs (x::ws,em),rfl,hv.same s1,T,hj,hlj,s1 _ _ hpw,s1 _ _ hpm,ee.nw,ee.nm,by have:=ee.lw;simp only[List.length_cons] at this;omega,ee.lm,ee.wt,λu H2 ku s2=>?_⟩
   obtain⟨kb,kp,rfl,k1,k2,k3⟩:=ku
   have S3:∀{c:Addr},H2 c=none->Same H2 (upd H2 c (.tup [.ref kb, .ref pm])):=λ{c} h=>Same.new h
   refine⟨_,rfl,few rfl,λpt hpt=>?_⟩
   have s3:=S3 hpt
   have hl3:=s3 _ _ (s2 _ _ hl1)
   refine⟨hl3,zm (by omega),⟨_,_,rfl⟩,?_,λc o e=>by rw[ze (zh e hl')];exact s3 _ _ (s2 _ _ (s1 c o e))⟩
   have up:∀c (xs:List V),(upd H2 pt (.tup [.ref kb, .ref pm])) c=some (.tup xs)->upd (upd H2 pt (.tup [.ref kb, .ref pm])) l' (.lst (ys ++ [.ref pt])) c=some (.tup xs):=λc xs e=>by rw[ze (zQ e hl3 (by intro z;cases z))];exact e
   refine AtG.snoc (AtG.mono a1 λc k ⟨t,pm',h1,⟨p,e,f,o⟩,h3⟩=>?_) ?_
   ·exact ⟨t,pm',up _ _ (s3 _ _ (s2 _ _ h1)),⟨p,up _ _ (s3 _ _ (s2 _ _ e)),up _ _ (s3 _ _ (s2 _ _ f)),o⟩,up _ _ (s3 _ _ (s2 _ _ h3))⟩
   ·exact ⟨kb,pm,up _ _ zb,⟨kp,up _ _ (s3 _ _ k1),up _ _ (s3 _ _ k2),k3⟩,up _ _ (s3 _ _ (s2 _ _ (s1 _ _ hpm)))⟩
  rintro l1 zs σ' H1 hl1' ⟨⟨o1,o2,rfl⟩,a1,s1⟩ hl1
  rw[lu,List.take_length] at a1
  dsimp only[zcw]
  refine e1 _ _ ?_
  obtain⟨bs,rfl,lb,hb⟩:=AtG.addrs a1
  have ndk:(es.map (kE rs)).Nodup:=by
   refine List.pairwise_map.mpr ((List.pairwise_map.mp nde).imp λh z=>h ?_)
   exact congrArg (λk:Ky=>k.2.2) z
  by_cases h0:es=[]
  ·subst h0
   have hb0:bs=[]:=List.eq_nil_of_length_eq_zero lb
   subst hb0
   refine⟨_,rfl,false, .inl ⟨_,SqL.of hl1,rfl⟩,zbA rfl ?_⟩
   refine⟨few rfl,λe2 he2=>⟨few rfl,λq2 hq2=>?_⟩⟩
   exact q q2 none _ rfl ⟨.non, .ref e2,zb,rfl,e2,rfl,Same.new hq2 _ _ zb⟩ (s1.trans ((Same.new he2).trans (Same.new hq2)))
  have l0:0<es.length:=List.length_pos_iff.mpr h0
  refine⟨_,rfl,true, .inl ⟨_,SqL.of hl1,?_⟩,zbM rfl ?_⟩
  ·cases bs with
   |nil=>rw[←lb] at l0;cases l0
   |cons _ _=>rfl
  refine⟨_,rfl,l1,bs,es.map (kE rs),rfl,hl1,by rw[List.length_map];exact lb,λi b k e1 e2=>?_,ndk,by rw[List.length_map];exact l0,λm b k e1 e2 best=>?_⟩
  ·rw[List.getElem?_map] at e2
   cases e3:es[i]? with
   |none=>rw[e3] at e2;cases e2
   |some e=>
    rw[e3] at e2;cases e2
    obtain⟨t,pm,h1,h2,h3⟩:=hb i b e e1 e3
    exact⟨_,t,h1,h2⟩
  ·rw[List.getElem?_map] at e2
   cases e3:es[m]? with
   |none=>rw[e3] at e2;cases e2
   |some e=>
    rw[e3] at e2;cases e2
    obtain⟨t,pm,h1,⟨p,h2,h3,h4⟩,h5⟩:=hb m b e e1 e3
    refine⟨b,_,rfl, .inl (.inl h1),rfl,_,_,rfl,_,_,rfl,rfl,?_⟩
    refine⟨_,rfl,1,rfl,t,_,-1,_,rfl,rfl, .inl (.inl h2),zkI,_,rfl,few rfl,λq2 hq2=>?_⟩
    have S:=Same.new (o:= .tup [V.ref p,V.ref pm]) hq2
    refine q q2 (some e) _ ⟨List.mem_of_getElem? e3,λe' he' ne=>best _ (List.mem_map.mpr ⟨e',he',rfl⟩) ne⟩ ⟨.ref p, .ref pm,zb,p,pm,rfl,rfl,S _ _ h3,S _ _ h5⟩ (s1.trans S)
end
section
variable{P:Program}{w:World}{K:PySem.W.Frag}{mg:Str->Option Value}{base:Heap}
noncomputable def zcR(v:V)(nm:Str)(hd td g:Addr)(n:Int):List (Str×V):=[("place",v),("name", .str nm),("hearings", .ref hd),("tellings", .ref td),("going", .ref g),("times", .int n)]
theorem zcu{v:V}{nm:Str}{hd td g:Addr}{n:Int}:(zcR v nm hd td g n).lookup ("place":Str)=some v:=by rfl
theorem zck{v:V}{nm:Str}{hd td g:Addr}{n:Int}:(zcR v nm hd td g n).lookup ("name":Str)=some (.str nm):=by rfl
theorem zgI{v:V}{nm:Str}{hd td g:Addr}{n:Int}:(zcR v nm hd td g n).lookup ("hearings":Str)=some (.ref hd):=by rfl
theorem zju{v:V}{nm:Str}{hd td g:Addr}{n:Int}:(zcR v nm hd td g n).lookup ("tellings":Str)=some (.ref td):=by rfl
theorem zdZ{v:V}{nm:Str}{hd td g:Addr}{n:Int}:(zcR v nm hd td g n).lookup ("going":Str)=some (.ref g):=by rfl
theorem zk1{v:V}{nm:Str}{hd td g:Addr}{n:Int}:(zcR v nm hd td g n).lookup ("times":Str)=some (.int n):=by rfl
noncomputable def zhZ(C:Addr):Sp:=λvs H Q _=>∃(p dx:Addr) (v:V) (nm:Str),vs=[.ref p,v, .str nm]/\H p=some (.ins C dx [])/\∀(hd td g e:Addr) (H':Hp),H hd=none->H td=none->H g=none->H e=none->hd≠td->H' p=some (.ins C dx (zcR v nm hd td g 0))->H' hd=some (.dK [])->H' td=some (.dK [])->H' g=some (.tup [.non, .ref e])->H' e=some (.tup [])->Keep p H H'->Q .non H'
theorem zkE(Y:Ev K mg):FnOk P w K mg base CX0 1 Y.a_House___init__ Y.d_House___init__ zan (zhZ Y.c_House):=by
 refine Y.House___init__.fn.okQ zei (λvs H Q E h=>?_) (λcdv A outer s H vs Q E hr h=>?_)
 ·obtain ⟨p,dx,v,nm,rfl,_⟩:=h;rfl
 ·obtain ⟨p,dx,v,nm,rfl,hp,q⟩:=h
  refine⟨_,(zf (zfg (qv 0) (qv 1))
   (zf (zfg (qv 0) (qv 2))
   (zf (zfg (qv 0) zd2)
   (zf (zfg (qv 0) zd2)
   (zf (zfg (qv 0) (zD (za zch (za (zD zd) zd))))
   (zk (zfg (qv 0) zg))))))),?_⟩
  refine⟨_,rfl,_,rfl,p,_,dx,[],rfl,hp,Y.k_House,Y.n_House_place,(by decide:0<1000),?_⟩
  have s1:Keep p H (upd H p (.ins Y.c_House dx (za2 "place" v []))):=Keep.upd _ _ _
  have p1:upd H p (.ins Y.c_House dx (za2 "place" v [])) p=some (.ins Y.c_House dx [("place",v)]):=zb
  generalize upd H p (.ins Y.c_House dx (za2 "place" v []))=H1 at *
  refine⟨_,rfl,_,rfl,p,_,dx,_,rfl,p1,Y.k_House,Y.n_House_name,(by decide:1<1000),?_⟩
  have s2:Keep p H (upd H1 p (.ins Y.c_House dx (za2 "name" (.str nm) [("place",v)]))):=s1.trans (Keep.upd _ _ _)
  have p2:upd H1 p (.ins Y.c_House dx (za2 "name" (.str nm) [("place",v)])) p=some (.ins Y.c_House dx [("place",v),("name", .str nm)]):=zb
  generalize upd H1 p (.ins Y.c_House dx (za2 "name" (.str nm) [("place",v)]))=H2 at *
  have none_of:∀{G:Hp} {b:Addr},H p=some (.ins Y.c_House dx [])->Keep p H G->G b=none->(∃o,G p=some o)->H b=none:=λ{G b} hp k e ⟨o,ho⟩=>by
   cases z:H b with
   |none=>rfl
   |some u=>
    have:b≠p:=λy=>by rw[y,ho] at e;cases e
    rw[k b u this z] at e;cases e
  refine λhd hhd=>⟨_,rfl,p,_,dx,_,rfl,Same.new hhd _ _ p2,Y.k_House,Y.n_House_hearings,(by decide:2<1000),?_⟩
  have h1:=none_of hp s2 hhd ⟨_,p2⟩
  have npd:hd≠p:=λz=>by rw[z,p2] at hhd;cases hhd
  have s3:Keep p H (upd (upd H2 hd (.dK [])) p (.ins Y.c_House dx (za2 "hearings" (.ref hd) [("place",v),("name", .str nm)]))):=(s2.trans (Keep.new hhd)).trans (Keep.upd _ _ _)
  have p3:upd (upd H2 hd (.dK [])) p (.ins Y.c_House dx (za2 "hearings" (.ref hd) [("place",v),("name", .str nm)])) p=some (.ins Y.c_House dx [("place",v),("name", .str nm),("hearings", .ref hd)]):=zb
  have d3:upd (upd H2 hd (.dK [])) p (.ins Y.c_House dx (za2 "hearings" (.ref hd) [("place",v),("name", .str nm)])) hd=some (.dK []):=by rw[ze npd];exact zb
  generalize upd (upd H2 hd (.dK [])) p (.ins Y.c_House dx (za2 "hearings" (.ref hd) [("place",v),("name", .str nm)]))=H3 at *
  refine λtd htd=>⟨_,rfl,p,_,dx,_,rfl,Same.new htd _ _ p3,Y.k_House,Y.n_House_tellings,(by decide:3<1000),?_⟩
  have h2:=none_of hp s3 htd ⟨_,p3⟩
  have npt:td≠p:=λz=>by rw[z,p3] at htd;cases htd
  have nht:hd≠td:=zh d3 htd
  have s4:Keep p H (upd (upd H3 td (.dK [])) p (.ins Y.c_House dx (za2 "tellings" (.ref td) [("place",v),("name", .str nm),("hearings", .ref hd)]))):=(s3.trans (Keep.new htd)).trans (Keep.upd _ _ _)
  have p4:upd (upd H3 td (.dK [])) p (.ins Y.c_House dx (za2 "tellings" (.ref td) [("place",v),("name", .str nm),("hearings", .ref hd)])) p=some (.ins Y.c_House dx [("place",v),("name", .str nm),("hearings", .ref hd),("tellings", .ref td)]):=zb
  have d4:upd (upd H3 td (.dK [])) p (.ins Y.c_House dx (za2 "tellings" (.ref td) [("place",v),("name", .str nm),("hearings", .ref hd)])) td=some (.dK []):=by rw[ze npt];exact zb
  have d4':upd (upd H3 td (.dK [])) p (.ins Y.c_House dx (za2 "tellings" (.ref td) [("place",v),("name", .str nm),("hearings", .ref hd)])) hd=some (.dK []):=by rw[ze npd];exact Same.new htd _ _ d3
  generalize upd (upd H3 td (.dK [])) p (.ins Y.c_House dx (za2 "tellings" (.ref td) [("place",v),("name", .str nm),("hearings", .ref hd)]))=H4 at *
  refine⟨few rfl,λe he=>⟨few rfl,λg hg=>?_⟩⟩
  have S5:=Same.new (o:= .tup ([]:List V)) he
  have S6:=Same.new (o:= .tup [V.non, .ref e]) hg
  have h3:=none_of hp s4 he ⟨_,p4⟩
  have h4:=none_of hp (s4.trans (Keep.of S5)) hg ⟨_,S5 _ _ p4⟩
  refine⟨_,rfl,p,_,dx,_,rfl,S6 _ _ (S5 _ _ p4),Y.k_House,Y.n_House_going,(by decide:4<1000),_,rfl,p,_,dx,_,rfl,zb,Y.k_House,Y.n_House_times,(by decide:5<1000),?_⟩
  rw[zjt]
  have ng:∀{b},H b=none->b≠p:=λ{b} e z=>by rw[z,hp] at e;cases e
  refine q hd td g e _ h1 h2 h4 h3 nht (by rw[zb];rfl) ?_ ?_ ?_ ?_ ?_
  ·rw[ze npd];exact S6 _ _ (S5 _ _ d4')
  ·rw[ze npt];exact S6 _ _ (S5 _ _ d4)
  ·rw[ze (ng h4)];exact zb
  ·rw[ze (ng h3)];exact S6 _ _ zb
  ·exact (s4.trans (Keep.of (S5.trans S6))).trans (Keep.upd _ _ _)
noncomputable def zeH(C:Addr)(k:Nat):Sp:=λvs H Q _=>∃(p dx hd td g:Addr) (v:V) (nm:Str) (n:Int) (us:List V) (u:V),vs=[.ref p]/\H p=some (.ins C dx (zcR v nm hd td g n))/\H g=some (.tup us)/\us[k]?=some u/\Q u H
theorem zlp(Y:Ev K mg):FnOk P w K mg base CX0 1 Y.a_House_way Y.d_House_way zbK (zeH Y.c_House 0):=by
 refine Y.House_way.fn.okQ zhl (λvs H Q E h=>?_) (λcdv A outer s H vs Q E hr h=>?_)
 ·obtain ⟨p,dx,hd,td,g,v,nm,n,us,u,rfl,_⟩:=h;rfl
 ·obtain ⟨p,dx,hd,td,g,v,nm,n,us,u,rfl,hp,hg,hu,q⟩:=h
  refine⟨_,(zk (zx (zM ix_tup (zaO (qv 0)) zg))),?_⟩
  exact⟨_,rfl,p,_,dx,_,_,rfl,hp,Y.k_House,Y.n_House_going,zdZ,g,us,0,u,rfl,rfl, .inl (.inl hg),zI (j:=0) hu,q⟩
theorem zi4(Y:Ev K mg):FnOk P w K mg base CX0 1 Y.a_House_marks Y.d_House_marks zaZ (zeH Y.c_House 1):=by
 refine Y.House_marks.fn.okQ zfY (λvs H Q E h=>?_) (λcdv A outer s H vs Q E hr h=>?_)
 ·obtain ⟨p,dx,hd,td,g,v,nm,n,us,u,rfl,_⟩:=h;rfl
 ·obtain ⟨p,dx,hd,td,g,v,nm,n,us,u,rfl,hp,hg,hu,q⟩:=h
  refine⟨_,(zk (zx (zM ix_tup (zaO (qv 0)) zg))),?_⟩
  exact⟨_,rfl,p,_,dx,_,_,rfl,hp,Y.k_House,Y.n_House_going,zdZ,g,us,1,u,rfl,rfl, .inl (.inl hg),zI (j:=1) hu,q⟩
noncomputable def zd5(C N:Addr):Sp:=λvs H Q _=>∃(p dx hd td g:Addr) (v:V) (nm o:Str) (n:Int) (kvs:List (Key×V)),vs=[.ref p, .str o]/\H p=some (.ins C dx (zcR v nm hd td g n))/\H hd=some (.dK kvs)/\Q ((z3 kvs (Sum.inr o)).getD (.ref N)) H
theorem zeS(Y:Ev K mg):FnOk P w K mg base CX0 1 Y.a_House_heard Y.d_House_heard zaF (zd5 Y.c_House Y.a_NOTHING):=by
 refine Y.House_heard.fn.okQ zfR (λvs H Q E h=>?_) (λcdv A outer s H vs Q E hr h=>?_)
 ·obtain ⟨p,dx,hd,td,g,v,nm,o,n,kvs,rfl,_⟩:=h;rfl
 ·obtain ⟨p,dx,hd,td,g,v,nm,o,n,kvs,rfl,hp,hh,q⟩:=h
  refine⟨_,(zk (zx (zeQ (hu1 hr) (zaO (qv 0)) (qv 1) (zlN (v:= .ref Y.a_NOTHING) Y.m_NOTHING rfl)))),?_⟩
  exact⟨_,rfl,p,_,dx,_,_,rfl,hp,Y.k_House,Y.n_House_hearings,zgI,hd,rfl, .inl ⟨_, .inl hh⟩,_,rfl,_,DGet.k (k:=Sum.inr o) hh,q⟩
def zcS:Option WM->Prop
 |none=>True
 |some (w,ms)=>(∀y∈w,zi y=true)/\(∀y∈ms,zi y=true)
theorem zhq{H:Hp}{p:Addr}{xs:List Str}(e:H p=some (.tup (xs.map V.str)))(h:∀y∈xs,zi y=true):TrC K H (.ref p) (.tuple (zu xs)):=by
 refine .tup (.inl (.inl e)) (by unfold zu;rw[List.length_map,List.length_map]) λi v d e1 e2=>?_
 unfold zu at e2
 rw[List.getElem?_map] at e1 e2
 cases e3:xs[i]? with
 |none=>rw[e3] at e1;cases e1
 |some x=>rw[e3] at e1 e2;cases e1;cases e2;exact .str x (zaj (h x (List.mem_of_getElem? e3)))
noncomputable def zbr:Option WM->PyData|none=> .none|some (w,_)=> .tuple (zu w)
noncomputable def zbU:Option WM->PyData|none=> .tuple []|some (_,ms)=> .tuple (zu ms)
theorem zeI{H:Hp}{x y:V}{b:Option WM}(h:WmAt H x y b)(ok:zcS b):TrC K H x (zbr b):=by
 match b,h,ok with
 |none,⟨h1,_⟩,_=>rw[h1];exact .non
 |some (w,ms),⟨pw,pm,h1,h2,h3,h4⟩,ok=>rw[h1];exact zhq h3 ok.1
theorem zjg{H:Hp}{x y:V}{b:Option WM}(h:WmAt H x y b)(ok:zcS b):TrC K H y (zbU b):=by
 match b,h,ok with
 |none,⟨_,e,h1,h2⟩,_=>rw[h1];exact .tup (.inl (.inl h2)) rfl λi v d e1=>by cases e1
 |some (w,ms),⟨pw,pm,h1,h2,h3,h4⟩,ok=>rw[h2];exact zhq h4 ok.2
theorem zbl{b:Option WM}:(zbr b).depth<=2:=by
 match b with
 |none=>show (PyData.none).depth<=2;rw[PyData.depth];decide
 |some (w,ms)=>show (PyData.tuple (zu w)).depth<=2;rw[PyData.depth];have:=zbC (xs:=w);omega
theorem zif{b:Option WM}:(zbr b).depth<=60:=Nat.le_trans zbl (by decide)
theorem zce{b:Option WM}:(zbU b).depth<=2:=by
 match b with
 |none=>show (PyData.tuple []).depth<=2;rw[PyData.depth,PyData.depthAll];decide
 |some (w,ms)=>show (PyData.tuple (zu ms)).depth<=2;rw[PyData.depth];have:=zbC (xs:=ms);omega
noncomputable def zfa(C:Addr):Sp:=λvs H Q _=>∃(p dx hd td g g':Addr) (v:V) (nm:Str) (n:Int) (b b':Option WM),vs=[.ref p, .ref g']/\H p=some (.ins C dx (zcR v nm hd td g n))/\GoR H g b/\GoR H g' b'/\zcS b/\zcS b'/\∀n':Int,Q .non (upd H p (.ins C dx (zcR v nm hd td g' n')))
theorem zgk(Y:Ev K mg):FnOk P w K mg base CX0 1 Y.a_House_go_by Y.d_House_go_by zaA (zfa Y.c_House):=by
 refine Y.House_go_by.fn.okQ zfQ (λvs H Q E h=>?_) (λcdv A outer s H vs Q E hr h=>?_)
 ·obtain ⟨p,dx,hd,td,g,g',v,nm,n,b,b',rfl,_⟩:=h;rfl
 ·obtain ⟨p,dx,hd,td,g,g',v,nm,n,b,b',rfl,hp,⟨x,y,hg,wa⟩,⟨x',y',hg',wa'⟩,ok,ok',q⟩:=h
  refine⟨_,(zeU (zaQ (zB (zlL (ziz hr)) (zM ix_tup (qv 1) zg) (zM ix_tup (zaO (qv 0)) zg)) (zk (zlO (qv 0) zg zo4)) z8)
   (zk (zfg (qv 0) (qv 1)))),?_⟩
  refine⟨λσ' H'=>σ'=[some (.ref p),some (.ref g')]/\∃n',H'=upd H p (.ins Y.c_House dx (zcR v nm hd td g n')),?_,?_⟩
  ·refine ⟨_,rfl,g',_,0,_,rfl,rfl, .inl (.inl hg'),at0,_,rfl,p,_,dx,_,_,rfl,hp,Y.k_House,Y.n_House_going,zdZ,g,_,0,_,rfl,rfl, .inl (.inl hg),at0,zbr b',zbr b,zeI wa' ok',zeI wa ok,Nat.le_trans (Nat.min_le_left _ _) zif,_,rfl,zcn (λ_=>?_) (λ_=>?_)⟩
   ·exact ⟨_,rfl,p,_,dx,_,_,rfl,hp,Y.k_House,Y.n_House_times,zk1,_,_,rfl,rfl,dx,_,hp,(by decide:6<1000),rfl,_,rfl⟩
   ·exact ⟨rfl,n,by funext c;by_cases e:c=p
                    ·rw[e,zb];exact hp
                    ·rw[ze e]⟩
  ·rintro σ' H1 ⟨rfl,n',rfl⟩
   refine⟨_,rfl,_,rfl,p,_,dx,_,rfl,zb,Y.k_House,Y.n_House_going,(by decide:6<1000),?_⟩
   rw[zjt]
   exact q n'
end
section
variable{P:Program}{w:World}{K:PySem.W.Frag}{mg:Str->Option Value}{base:Heap}
theorem zjS{g:Str}{hs:List Str}{ps:List (Str×Str)}{lks hds:List D}(T:TownOk g hs ps lks hds)(hf:∀d∈hds,∃ds,d= .tup ds/\ds.length<=12){x:Str}(h:x∈hs):∃(j:Nat) (rs:List D),hs[j]?=some x/\hds[j]?=some (.tup rs)/\zA hs hds x=rs/\zgE rs/\rs.length<=12:=by
 obtain⟨j,d,e1,e2,hm⟩:=zo6 T h
 obtain⟨rs,rfl,hk⟩:=zfi (T.hands d hm)
 obtain⟨ds,e3,h12⟩:=hf _ hm
 cases e3
 exact⟨j,rs,e1,e2,zgz T.hs_nd e1 e2,hk,h12⟩
def GoOk(nm:Str):Option WM->Prop
 |none=>True
 |some (w,ms)=>(∃ws,w=nm::ws/\ws.length<=90)/\(∀y∈w,zi y=true)/\(∀y∈ms,zi y=true)/\ms.length<=40
theorem GoOk.wm{nm:Str}{b:Option WM}(h:GoOk nm b):zcS b:=by
 match b,h with
 |none,_=>exact trivial
 |some (w,ms),⟨_,h1,h2,_⟩=>exact ⟨h1,h2⟩
theorem zlx{g:Str}{hs:List Str}{ps:List (Str×Str)}{lks hds:List D}(T:TownOk g hs ps lks hds)(hf:∀d∈hds,∃ds,d= .tup ds/\ds.length<=12){nm o:Str}(hn:nm∈hs){b:Option WM}(ok:GoOk nm b):zcS (zcc (zA hs hds nm) b o):=by
 obtain⟨j,rs,_,_,er,hk,_⟩:=zjS T hf hn
 match b,ok with
 |none,_=>exact trivial
 |some (w,ms),⟨_,h1,h2,_⟩=>
  show zcS ((zR w (some o) (zA hs hds nm) ms).map λt=>(w,t))
  rw[er]
  cases e:zR w (some o) rs ms with
  |none=>exact trivial
  |some t=>exact ⟨h1,zcB hk.2 h2 e⟩
noncomputable def zf8(C:Addr):Sp:=λvs H Q _=>∃(p dx hd td ga:Addr) (v:V) (nm o:Str) (n:Int) (b:Option WM) (g:Str) (hs:List Str) (ps:List (Str×Str)) (lks hds:List D),vs=[.ref p, .str o]/\H p=some (.ins C dx (zcR v nm hd td ga n))/\Rep H v (zar g hs ps lks hds)/\TownOk g hs ps lks hds/\(∀d∈hds,∃ds,d= .tup ds/\ds.length<=12)/\nm∈hs/\o∈hs/\GoR H ga b/\GoOk nm b/\∀(q:Addr) (H':Hp),GoR H' q (zcc (zA hs hds nm) b o)->Same H H'->Q (.ref q) H'
theorem ziD(Y:Ev K mg):FnOk P w K mg base CX0 6 Y.a_House_offer Y.d_House_offer zaX (zf8 Y.c_House):=by
 have G_handed:FnOk P w K mg base CX0 5 Y.a_handed Y.d_handed zc6 zgl:=zja Y
 refine Y.House_offer.fn.okQ c_House_offer (λvs H Q E h=>?_) (λcdv A outer s H vs Q E hr h=>?_)
 ·obtain ⟨p,dx,hd,td,ga,v,nm,o,n,b,g,hs,ps,lks,hds,rfl,_⟩:=h;rfl
 ·obtain ⟨p,dx,hd,td,ga,v,nm,o,n,b,g,hs,ps,lks,hds,rfl,hp,hv,T,hf,hnm,ho,⟨x,y,h1,wa⟩,ok,q⟩:=h
  refine⟨_,(zf (zcP (zaO (qv 0)) (zcO 2 rfl (zv (zr 2 c_House_offer.nd) (zv (zr 3 c_House_offer.nd) zbu))))
   (zf (zw 4 c_House_offer.nd (zpZ (zB zgN (qv 2) zch) zch (zj G_handed (hr.mono (by decide)) Y.handed.mg Y.handed.kp Y.handed.b .nil zo (za (zaO (qv 0)) (za (qv 2) (za (qv 3) (za (qv 1) zd)))))))
   (zk (zx (zpZ (zB zgN (qv 4) zch) (zD (za zch (za (zD zd) zd))) (zD (za (qv 2) (za (qv 4) zd)))))))),?_⟩
  refine⟨_,rfl,p,_,dx,_,_,rfl,hp,Y.k_House,Y.n_House_going,zdZ,ga,_,rfl, .inl (.inl h1),rfl,_,_,rfl,_,_,rfl,rfl,?_⟩
  match b,wa,ok,q with
  |none,⟨ex,e,ey,h2⟩,_,q=>
   subst ex ey
   refine⟨_,rfl,rfl,_,rfl,zbA rfl ?_⟩
   refine⟨_,rfl,rfl,_,rfl,zbA rfl ⟨few rfl,λe2 he2=>⟨few rfl,λq2 hq2=>?_⟩⟩⟩
   exact q q2 _ ⟨.non, .ref e2,zb,rfl,e2,rfl,Same.new hq2 _ _ zb⟩ ((Same.new he2).trans (Same.new hq2))
  |some (w,ms),⟨wt,mt,ex,ey,h2,h3⟩,⟨⟨ws,ew,lw⟩,nw,nm',lm⟩,q=>
   subst ex ey ew
   obtain⟨j,rs,hj,hdj,er,hk,h12⟩:=zjS T hf hnm
   refine⟨_,rfl,rfl,_,rfl,zbM rfl ?_⟩
   refine⟨_,rfl,p,_,dx,_,_,rfl,hp,Y.k_House,Y.n_House_place,zcu,_,rfl,_,rfl,_,rfl,v,wt,mt, .str o,nm,ws,ms,some o,g,hs,ps,lks,hds,j,rs,Mn 40,rfl,hv,T,hj,hdj,hk,zop hk (by omega),⟨nm',lm⟩,h2,h3, .inr ⟨o,rfl,rfl,T.names o ho⟩,nw,lw,λu H1 tu s1=>?_⟩
   have eo:zcc (zA hs hds nm) (some (nm::ws,ms)) o=(zR (nm::ws) (some o) rs ms).map λt=>(nm::ws,t):=by rw[←er];rfl
   rw[eo] at q
   cases e:zR (nm::ws) (some o) rs ms with
   |none=>
    rw[e] at tu q
    cases(show u= .non from tu)
    refine⟨_,rfl,rfl,_,rfl,zbA rfl ⟨few rfl,λe2 he2=>⟨few rfl,λq2 hq2=>?_⟩⟩⟩
    exact q q2 _ ⟨.non, .ref e2,zb,rfl,e2,rfl,Same.new hq2 _ _ zb⟩ (s1.trans ((Same.new he2).trans (Same.new hq2)))
   |some t=>
    rw[e] at tu q
    obtain⟨mp,rfl,hmp⟩:=tu
    refine⟨_,rfl,rfl,_,rfl,zbM rfl ⟨_,rfl,_,rfl,few rfl,λq2 hq2=>?_⟩⟩
    have S2:=Same.new (o:= .tup [V.ref wt,V.ref mp]) hq2
    exact q q2 _ ⟨.ref wt, .ref mp,zb,wt,mp,rfl,rfl,S2 _ _ (s1 _ _ h2),S2 _ _ hmp⟩ (s1.trans S2)
def TeO(H:Hp)(v:V)(r:Hr):Prop:=∃t x y,v= .ref t/\H t=some (.tup [.int r.1,x,y])/\WmAt H x y r.2
theorem TeO.mono{H H':Hp}{v:V}{r:Hr}(h:TeO H v r)(m:∀c xs,H c=some (.tup xs)->H' c=some (.tup xs)):TeO H' v r:=let⟨t,x,y,e,h1,w⟩:=h;⟨t,x,y,e,m _ _ h1,w.mono m⟩
inductive TbL(H:Hp):List (Key×V)->Tb->Prop
 |nil:TbL H [] []
 |cons {x:Str} {v:V} {r:Hr} {kvs:List (Key×V)} {m:Tb} (h:TeO H v r) (t:TbL H kvs m):TbL H ((Sum.inr x,v)::kvs) ((x,r)::m)
theorem TbL.mono{H H':Hp}{kvs:List (Key×V)}{tm:Tb}(h:TbL H kvs tm)(m:∀c xs,H c=some (.tup xs)->H' c=some (.tup xs)):TbL H' kvs tm:=by
 induction h with
 |nil=>exact .nil
 |cons h t ih=>exact .cons (h.mono m) ih
theorem TbL.len{H:Hp}{kvs:List (Key×V)}{m:Tb}(h:TbL H kvs m):kvs.length=m.length:=by
 induction h with
 |nil=>rfl
 |cons h t ih=>rw[List.length_cons,List.length_cons,ih]
theorem TbL.look{H:Hp}{kvs:List (Key×V)}{m:Tb}(h:TbL H kvs m)(x:Str):(zt m x=none/\z3 kvs (Sum.inr x)=none)\/∃r v,zt m x=some r/\z3 kvs (Sum.inr x)=some v/\TeO H v r:=by
 induction h with
 |nil=>exact .inl ⟨rfl,rfl⟩
 | @cons y v r kvs m h t ih=>
   by_cases e:y=x
   ·exact .inr ⟨r,v,zad e,zah (by rw[e]),h⟩
   ·rw[zap (p:=(y,r)) e,zae (p:=(Sum.inr y,v)) (λz=>e (Sum.inr.inj z))];exact ih
theorem TbL.map{H:Hp}{kvs:List (Key×V)}{m:Tb}(h:TbL H kvs m){x:Str}{v:V}{r:Hr}(hv:TeO H v r):TbL H (kvs.map λkv=>if kv.1=Sum.inr x then(kv.1,v)else kv) (m.map λp=>if p.1=x then(p.1,r)else p):=by
 induction h with
 |nil=>exact .nil
 | @cons y v' r' kvs m h t ih=>
   rw[List.map_cons,List.map_cons]
   by_cases e:y=x
   ·rw[if_pos (show(Sum.inr y:Key)=Sum.inr x by rw[e]),if_pos (show y=x from e)];exact .cons hv ih
   ·rw[if_neg (show¬(Sum.inr y:Key)=Sum.inr x from λz=>e (Sum.inr.inj z)),if_neg (show¬y=x from e)];exact .cons h ih
theorem TbL.snoc{H:Hp}{kvs:List (Key×V)}{m:Tb}(h:TbL H kvs m){x:Str}{v:V}{r:Hr}(hv:TeO H v r):TbL H (kvs ++ [(Sum.inr x,v)]) (m ++ [(x,r)]):=by
 induction h with
 |nil=>exact .cons hv .nil
 |cons h t ih=>exact .cons h ih
theorem TbL.put{H:Hp}{kvs:List (Key×V)}{m:Tb}(h:TbL H kvs m){x:Str}{v:V}{r:Hr}(hv:TeO H v r):TbL H (z6 kvs (Sum.inr x) v) (zb3 m x r):=by
 unfold z6 zb3
 rw[zcz,zbZ]
 rcases h.look x with⟨e1,e2⟩|⟨r',v',e1,e2,_⟩
 ·rw[e1,e2,if_neg (by simp),if_neg (by simp)];exact h.snoc hv
 ·rw[e1,e2,if_pos (show(some v').isSome=true from rfl),if_pos (show(some r').isSome=true from rfl)];exact h.map hv
theorem zoE:∀{a b:Option WM},(PyData.tuple [zbr a,zbU a]).eqv (.tuple [zbr b,zbU b])=decide (a=b)
 |none,none=>by
  show(PyData.tuple [.none, .tuple []]).eqv (.tuple [.none, .tuple []])=_
  rw[PyData.eqv,PyData.eqvAll,PyData.eqvAll,PyData.eqvAll,PyData.eqv,PyData.eqv,PyData.eqvAll];rfl
 |none,some (w,ms)=>by
  show(PyData.tuple [.none, .tuple []]).eqv (.tuple [.tuple (zu w), .tuple (zu ms)])=_
  rw[PyData.eqv,PyData.eqvAll,PyData.eqv];rfl
 |some (w,ms),none=>by
  show(PyData.tuple [.tuple (zu w), .tuple (zu ms)]).eqv (.tuple [.none, .tuple []])=_
  rw[PyData.eqv,PyData.eqvAll,PyData.eqv];rfl
 |some (w,ms),some (w',ms')=>by
  show(PyData.tuple [.tuple (zu w), .tuple (zu ms)]).eqv (.tuple [.tuple (zu w'), .tuple (zu ms')])=_
  rw[PyData.eqv,PyData.eqvAll,PyData.eqvAll,PyData.eqvAll,zdk,zdk]
  rw[Bool.eq_iff_iff]
  simp only[Bool.and_eq_true,decide_eq_true_eq,Option.some.injEq,Prod.mk.injEq]
  simp
end
section
variable{P:Program}{w:World}{K:PySem.W.Frag}{mg:Str->Option Value}{base:Heap}
theorem zb7{K:PySem.W.Frag}{a b:Addr}{xs ys:List V}{H:Hp}{Q:VK}(ha:H a=some (.tup xs))(hb:H b=some (.tup ys))(hl:xs.length+ys.length<=1000)(k:∀p H',H' p=some (.tup (xs ++ys))->Same H H'->Q (.ref p) H'):zn2 K (.ref a) (.ref b) H Q:=
 ⟨a,b,xs,ys,rfl,rfl, .inl (.inl ha), .inl (.inl hb),Nat.le_of_lt (zm hl),λz=>k b H (by rw[z];exact hb) (Same.refl _),λ_ z=>k a H (by rw[z,List.append_nil];exact ha) (Same.refl _),λ_ _ p hp=>k p _ zb (Same.new hp)⟩
theorem zjU{H:Hp}{a:Addr}{x y:V}{dx dy:PyData}(e:H a=some (.tup [x,y]))(h1:TrC K H x dx)(h2:TrC K H y dy):TrC K H (.ref a) (.tuple [dx,dy]):=by
 refine .tup (.inl (.inl e)) rfl λi v d e1 e2=>?_
 match i with
 |0=>cases e1;cases e2;exact h1
 |1=>cases e1;cases e2;exact h2
 |i+2=>cases e1
theorem zj8{b b':Option WM}:min (PyData.tuple [zbr b,zbU b]).depth (PyData.tuple [zbr b',zbU b']).depth<=60:=by
 refine Nat.le_trans (Nat.min_le_left _ _) ?_
 rw[PyData.depth,PyData.depthAll,PyData.depthAll,PyData.depthAll]
 have h1:=zbl (b:=b)
 have h2:=zce (b:=b)
 omega
def LtO(H:Hp)(v:V)(a c:Str)(r:Hr):Prop:=∃t x y,v= .ref t/\H t=some (.tup [.str a, .str c, .int r.1,x,y])/\WmAt H x y r.2
theorem LtO.mono{H H':Hp}{v:V}{a c:Str}{r:Hr}(h:LtO H v a c r)(m:∀c xs,H c=some (.tup xs)->H' c=some (.tup xs)):LtO H' v a c r:=let⟨t,x,y,e,h1,w⟩:=h;⟨t,x,y,e,m _ _ h1,w.mono m⟩
inductive LtsO(H:Hp)(nm:Str):List V->List Lt->Prop
 |nil:LtsO H nm [] []
 |cons {v:V} {l:Lt} {us:List V} {L:List Lt} (h:LtO H v nm l.1 l.2) (t:LtsO H nm us L):LtsO H nm (v::us) (l::L)
theorem LtsO.mono{H H':Hp}{nm:Str}{us:List V}{L:List Lt}(h:LtsO H nm us L)(m:∀c xs,H c=some (.tup xs)->H' c=some (.tup xs)):LtsO H' nm us L:=by
 induction h with
 |nil=>exact .nil
 |cons h t ih=>exact .cons (h.mono m) ih
theorem LtsO.append{H:Hp}{nm:Str}{us us':List V}{L L':List Lt}(h:LtsO H nm us L)(h':LtsO H nm us' L'):LtsO H nm (us ++us') (L ++L'):=by
 induction h with
 |nil=>exact h'
 |cons h t ih=>exact .cons h ih
theorem LtsO.len{H:Hp}{nm:Str}{us:List V}{L:List Lt}(h:LtsO H nm us L):us.length=L.length:=by
 induction h with
 |nil=>rfl
 |cons h t ih=>rw[List.length_cons,List.length_cons,ih]
def wmR(_:Str)(r:Hr):Prop:=zcS r.2
theorem zm1{hs:List Str}{tm:Tb}(h:TbOk hs wmR tm)(o:Str):zcS (zao tm o):=by
 unfold zao
 cases e:zt tm o with
 |none=>exact trivial
 |some r=>exact h.look e
theorem zmc{hs:List Str}{tm:Tb}{rs:List D}{b:Option WM}{o:Str}(h:TbOk hs wmR tm)(ho:o∈hs)(hw:zcS (zcc rs b o)):TbOk hs wmR (zcf rs b tm o):=by
 unfold zcf
 split
 ·exact h
 ·exact h.put ho hw
noncomputable def zfo(C:Addr):Sp:=λvs H Q _=>∃(p dx hd td ga:Addr) (v:V) (nm:Str) (n:Int) (b:Option WM) (kv0:List (Key×V)) (tm:Tb) (g:Str) (hs:List Str) (ps:List (Str×Str)) (lks hds:List D),vs=[.ref p]/\H p=some (.ins C dx (zcR v nm hd td ga n))/\H td=some (.dK kv0)/\TbL H kv0 tm/\TbOk hs wmR tm/\Rep H v (zar g hs ps lks hds)/\TownOk g hs ps lks hds/\(∀d∈hds,∃ds,d= .tup ds/\ds.length<=12)/\nm∈hs/\GoR H ga b/\GoOk nm b/\
 ∀(l:Addr) (us:List V) (kvs:List (Key×V)) (H':Hp),H l=none->H' l=some (.lst us)->LtsO H' nm us (zcT (zA hs hds nm) b tm (due hs ps nm))->H' td=some (.dK kvs)->TbL H' kvs (zcQ (zA hs hds nm) b tm (due hs ps nm))->TbOk hs wmR (zcQ (zA hs hds nm) b tm (due hs ps nm))->Keep td H H'->Q (.ref l) H'
theorem zgw(Y:Ev K mg):FnOk P w K mg base CX0 7 Y.a_House_letters Y.d_House_letters zaa (zfo Y.c_House):=by
 have G_tied:FnOk P w K mg base CX0 1 Y.a_tied Y.d_tied zcD zeg:=zdE Y
 have G_House_offer:FnOk P w K mg base CX0 6 Y.a_House_offer Y.d_House_offer zaX (zf8 Y.c_House):=ziD Y
 refine Y.House_letters.fn.okQ c_House_letters (λvs H Q E h=>?_) (λcdv A outer s H vs Q E hr h=>?_)
 ·obtain ⟨p,dx,hd,td,ga,v,nm,n,b,kv0,tm,g,hs,ps,lks,hds,rfl,_⟩:=h;rfl
 ·obtain ⟨p,dx,hd,td,ga,v,nm,n,b,kv0,tm,g,hs,ps,lks,hds,rfl,hp,htd,tb0,to0,hv,T,hf,hnm,G,ok,q⟩:=h
  have T10:=T.ten
  refine⟨_,(zf (zw 1 c_House_letters.nd (zbL zd))
   (zf (zbw PassesOwn.never rfl (zcA (zj G_tied (hr.mono (by decide)) Y.tied.mg Y.tied.kp Y.tied.b .nil zo (za (zaO (qv 0)) (za (zaO (qv 0)) zd)))) (zr 2 c_House_letters.nd) (zf (zcP (zeQ (hu1 hr) (zaO (qv 0)) (qv 2) (zlN (v:= .ref Y.a_NOTHING) Y.m_NOTHING rfl)) (zcO 3 rfl (zv (zr 3 c_House_letters.nd) (zv (zr 4 c_House_letters.nd) (zv (zr 5 c_House_letters.nd) zbu)))))
   (zf (zw 6 c_House_letters.nd (zd4 (qv 0) Y.k_House Y.House_offer.m G_House_offer (hr.mono (by decide)) Y.House_offer.b .nil zo (za (qv 2) zd)))
   (zk (zaQ (zB (zlL (ziz hr)) (qv 6) (zD (za (qv 4) (za (qv 5) zd)))) (zf (zc0 (hu1 hr) (zaO (qv 0)) (qv 2) (zz zdO (zD (za (zz z7 (qv 3) zg) zd)) (qv 6)))
   (zk (zcm (zfr PySem.F.plainAttrs_list PySem.F.slot_list_append PySem.F.type_list_append zaS (qv 1) (za (zz zdO (zD (za (zaO (qv 0)) (za (qv 2) (za (zz z7 (qv 3) zg) zd)))) (qv 6)) zd))))) z8)))))
   (zk (zx (qv 1))))),?_⟩
  refine⟨few rfl,λlf hlf=>?_⟩
  have S1:=Same.new (o:= .lst ([]:List V)) hlf
  have nlt:lf≠td:=Ne.symm (zh htd hlf)
  have nlp:p≠lf:=zh hp hlf
  refine⟨_,rfl,p,_,dx,_,_,rfl,S1 _ _ hp,Y.k_House,Y.n_House_place,zcu,_,rfl,p,_,dx,_,_,rfl,S1 _ _ hp,Y.k_House,Y.n_House_name,zck,v,nm,g,hs,ps,lks,hds,rfl,hv.same S1,T,λlt ts H2 hlt ht2 tp tsr s2=>?_⟩
  have ets:=zfy T tp tsr
  have tin:∀o∈ts,o∈hs:=λo ho=>zdd T (tp.mem_iff.mp ho)
  have tl:ts.length<=10:=by rw[tp.length_eq];exact zcY T nm
  rw[←ets] at q
  have nltt:lt≠td:=λz=>by rw[z,S1 _ _ htd] at hlt;cases hlt
  have nltf:lt≠lf:=λz=>by rw[z,zb] at hlt;cases hlt
  have offok:∀o,zcS (zcc (zA hs hds nm) b o):=λo=>zlx T hf hnm ok
  generalize ers:zA hs hds nm=rs at *
  refine⟨lt,rfl,⟨_,SqL.of ht2⟩,?_⟩
  refine zaK (zbX (K:=K) (xs:=ts.map V.str)) (λi σ' H'=>(∃o2 o3 o4 o5 o6,σ'=[some (.ref p),some (.ref lf),o2,o3,o4,o5,o6])/\H' lt=some (.lst (ts.map V.str))/\(∃kvs us,H' td=some (.dK kvs)/\TbL H' kvs (zcQ rs b tm (ts.take i))/\TbOk hs wmR (zcQ rs b tm (ts.take i))/\H' lf=some (.lst us)/\LtsO H' nm us (zcT rs b tm (ts.take i)))/\Keep td H H') ?_ ?_ ?_ ?_
  ·exact ⟨⟨_,_,_,_,_,rfl⟩,ht2,⟨kv0,[],s2 _ _ (S1 _ _ htd),tb0.mono λc xs e=>s2 _ _ (S1 _ _ e),to0,s2 _ _ zb, .nil⟩,Keep.of (S1.trans s2)⟩
  ·rintro i σ' H' ⟨_,h,_⟩
   exact SqL.of h
  ·rintro i y σ' H3 hi hy ⟨⟨o2,o3,o4,o5,o6,rfl⟩,ht3,⟨kvs,us,hk3,tb3,to3,hf3,R3⟩,k3⟩
   obtain⟨o,ho,rfl⟩:∃o,ts[i]?=some o/\y= .str o:=by
    rw[List.getElem?_map] at hy
    cases e:ts[i]? with
    |none=>rw[e] at hy;cases hy
    |some th=>rw[e] at hy;cases hy;exact⟨th,rfl,rfl⟩
   rw[List.length_map] at hi
   have npt:p≠td:=zQ hp htd (λz=>nomatch z)
   have hp3:=k3 _ _ npt hp
   have ohs:=tin o (List.mem_of_getElem? ho)
   have tk:ts.take (i+1)=ts.take i ++ [o]:=by rw[List.take_add_one,ho];rfl
   have nl3:=zdU (rs:=rs) (b:=b) (os:=ts.take i) (tm:=tm)
   rw[List.length_take] at nl3
   rw[tk,ziu,zgi]
   generalize zcQ rs b tm (ts.take i)=t3 at *
   generalize zcT rs b tm (ts.take i)=L3 at *
   have kt:∀c xs,H c=some (.tup xs)->H3 c=some (.tup xs):=λc xs e=>k3 _ _ (zQ e htd (λz=>nomatch z)) e
   have hv3:Rep H3 v (zar g hs ps lks hds):=by
    refine hv.mono ⟨kt,λc xs e=>⟨xs,k3 _ _ (zQ e htd (λz=>nomatch z)) e⟩,λc xs e=>?_⟩
    by_cases z:c=td
    ·rw[z];exact⟨kvs,hk3⟩
    ·exact ⟨xs,k3 _ _ z e⟩
   obtain⟨A3,x3,y3,eA,hA,tx,ty⟩:∃A x y,(z3 kvs (Sum.inr o)).getD (.ref Y.a_NOTHING)= .ref A/\SqT K H3 A [.int (zdA (zt t3 o)),x,y]/\(∀H',(∀c xs,H3 c=some (.tup xs)->H' c=some (.tup xs))->TrC K H' x (zbr (zao t3 o)))/\∀H',(∀c xs,H3 c=some (.tup xs)->H' c=some (.tup xs))->TrC K H' y (zbU (zao t3 o)):=by
    have wok:=zm1 to3 o
    unfold zao at wok⊢
    rcases tb3.look o with⟨e1,e2⟩|⟨r,v',e1,e2,t,x,y,rfl,ht,wa⟩
    ·rw[e1,e2]
     exact⟨Y.a_NOTHING, .non, .ref Y.e_NOTHING,rfl,Y.t_NOTHING _,λ_ _=> .non,λ_ _=> .tup (Y.u_NOTHING _) rfl λi v d e1=>by cases e1⟩
    ·rw[e1] at wok⊢
     rw[e2]
     exact⟨t,x,y,rfl, .inl (.inl ht),λH' m=>zeI (wa.mono m) wok,λH' m=>zjg (wa.mono m) wok⟩
   refine⟨_,rfl,p,_,dx,_,_,rfl,hp3,Y.k_House,Y.n_House_tellings,zju,td,rfl, .inl ⟨_, .inl hk3⟩,_,rfl,_,DGet.k (k:=Sum.inr o) hk3,?_⟩
   rw[eA]
   generalize enr:zdA (zt t3 o)=nr at *
   refine⟨A3,_,rfl,hA,rfl,_,_,rfl,_,_,rfl,_,_,rfl,rfl,?_⟩
   refine⟨_,rfl,p,dx,_,rfl,hp3,rfl,_,rfl,p,dx,hd,td,ga,v,nm,o,n,b,g,hs,ps,lks,hds,rfl,hp3,hv3,T,hf,hnm,ohs,G.mono kt,ok,λqa H4 O4 s4=>?_⟩
   rw[ers] at O4
   obtain⟨x4,y4,hq4,wa4⟩:=O4
   refine⟨_,rfl,_,rfl,_,rfl,few rfl,λp5 hp5=>?_⟩
   have S5:=Same.new (o:= .tup [x3,y3]) hp5
   have s35:=s4.trans S5
   have e5:(upd H4 p5 (.tup [x3,y3])) p5=some (.tup [x3,y3]):=zb
   generalize (upd H4 p5 (HO.tup [x3,y3]))=H5 at *
   have hq5:=S5 _ _ hq4
   have wa5:=wa4.mono λc xs e=>S5 _ _ e
   have m35:∀c xs,H3 c=some (.tup xs)->H5 c=some (.tup xs):=λc xs e=>s35 _ _ e
   refine⟨_,_,zjU hq5 (zeI wa5 (offok o)) (zjg wa5 (offok o)),zjU e5 (tx H5 m35) (ty H5 m35),zj8,_,rfl,?_⟩
   rw[zoE]
   by_cases eo:zcc rs b o=zao t3 o
   ·rw[decide_eq_true eo]
    have et:zcf rs b t3 o=t3:=by unfold zcf;rw[if_pos eo]
    have en:zfJ rs b t3 o=[]:=by unfold zfJ;rw[if_pos eo]
    rw[et,en,List.append_nil]
    exact zbM rfl ⟨⟨_,_,_,_,_,rfl⟩,s35 _ _ ht3,⟨kvs,us,s35 _ _ hk3,tb3.mono m35,to3,s35 _ _ hf3,R3.mono m35⟩,k3.trans (Keep.of s35)⟩
   rw[decide_eq_false eo]
   have et:zcf rs b t3 o=zb3 t3 o (zdA (zt t3 o)+1,zcc rs b o):=by unfold zcf;rw[if_neg eo]
   have en:zfJ rs b t3 o=[(o,zdA (zt t3 o)+1,zcc rs b o)]:=by unfold zfJ;rw[if_neg eo]
   have tok:=zmc (rs:=rs) (b:=b) to3 ohs (offok o)
   rw[et] at tok⊢
   rw[en]
   rw[enr] at tok⊢
   refine zbA rfl ⟨_,rfl,_,_,rfl,rfl,few rfl,λp6 hp6=>?_⟩
   have S6:=Same.new (o:= .tup [V.int (nr+1)]) hp6
   refine⟨_,rfl,zb7 (xs:=[V.int (nr+1)]) (ys:=[x4,y4]) zb (S6 _ _ hq5) (by decide:1+2<=1000) λp7 H7 hp7 s7=>?_⟩
   have hp7:H7 p7=some (.tup [V.int (nr+1),x4,y4]):=hp7
   have s57:=S6.trans s7
   have s37:=s35.trans s57
   have hpp7:=s37 _ _ hp3
   have hk7:=s37 _ _ hk3
   have hq7:=s57 _ _ hq5
   have hf7:=s37 _ _ hf3
   have ht7:=s37 _ _ ht3
   have wa7:=wa5.mono λc xs e=>s57 _ _ e
   have kl:=tb3.len
   have t3l:=to3.len
   refine⟨_,rfl,p,_,dx,_,_,rfl,hpp7,Y.k_House,Y.n_House_tellings,zju,_,rfl,td,_,rfl, .inl ⟨kvs,Sum.inr o,hk7,rfl,zm (by omega),rfl⟩,?_⟩
   have nq:∀{c xs},H7 c=some (.tup xs)->c≠td:=λ{c xs} e=>zQ e hk7 (λz=>nomatch z)
   have m78:∀c xs,H7 c=some (.tup xs)->upd H7 td (.dK (z6 kvs (Sum.inr o) (.ref p7))) c=some (.tup xs):=λc xs e=>by rw[ze (nq e)];exact e
   have k78:Keep td H7 (upd H7 td (.dK (z6 kvs (Sum.inr o) (.ref p7)))):=Keep.upd _ _ _
   have hk8:upd H7 td (.dK (z6 kvs (Sum.inr o) (.ref p7))) td=some (.dK (z6 kvs (Sum.inr o) (.ref p7))):=zb
   generalize (upd H7 td (.dK (z6 kvs (Sum.inr o) (.ref p7))))=H8 at *
   have hf8:=k78 _ _ nlt hf7
   have hpp8:=k78 _ _ npt hpp7
   have ht8:=k78 _ _ nltt ht7
   refine⟨_,rfl, .inl ⟨rfl,_,SqL.of hf8⟩,_,rfl,p,_,dx,_,_,rfl,hpp8,Y.k_House,Y.n_House_name,zck,_,rfl,_,rfl,_,_,rfl,rfl,few rfl,λp9 hp9=>?_⟩
   have S9:=Same.new (o:= .tup [V.str nm,V.str o,V.int (nr+1)]) hp9
   refine⟨_,rfl,zb7 (xs:=[V.str nm,V.str o,V.int (nr+1)]) (ys:=[x4,y4]) zb (S9 _ _ (m78 _ _ hq7)) (by decide:3+2<=1000) λpA HA hpA sA=>?_⟩
   have hpA:HA pA=some (.tup [V.str nm,V.str o,V.int (nr+1),x4,y4]):=hpA
   have s8A:=S9.trans sA
   have m7A:∀c xs,H7 c=some (.tup xs)->HA c=some (.tup xs):=λc xs e=>s8A _ _ (m78 _ _ e)
   have m3A:∀c xs,H3 c=some (.tup xs)->HA c=some (.tup xs):=λc xs e=>m7A _ _ (s37 _ _ e)
   have hfA:=s8A _ _ hf8
   have ul:=R3.len
   refine⟨lf,us,_,rfl,rfl,hfA,zm (by omega),⟨_,_,_,_,_,rfl⟩,?_,⟨z6 kvs (Sum.inr o) (.ref p7),us ++ [.ref pA],?_,?_,tok,zb,?_⟩,?_⟩
   ·rw[ze nltf];exact s8A _ _ ht8
   ·rw[ze (Ne.symm nlt)];exact s8A _ _ hk8
   ·have mB:∀c xs,HA c=some (.tup xs)->upd HA lf (.lst (us ++ [.ref pA])) c=some (.tup xs):=λc xs e=>by rw[ze (zQ e hfA (λz=>nomatch z))];exact e
    exact(tb3.mono λc xs e=>mB _ _ (m3A _ _ e)).put ⟨p7,x4,y4,rfl,mB _ _ (m7A _ _ hp7),wa7.mono λc xs e=>mB _ _ (m7A _ _ e)⟩
   ·have mB:∀c xs,HA c=some (.tup xs)->upd HA lf (.lst (us ++ [.ref pA])) c=some (.tup xs):=λc xs e=>by rw[ze (zQ e hfA (λz=>nomatch z))];exact e
    exact(R3.mono λc xs e=>mB _ _ (m3A _ _ e)).append (.cons ⟨pA,x4,y4,rfl,mB _ _ hpA,wa7.mono λc xs e=>mB _ _ (m7A _ _ e)⟩ .nil)
   ·exact λc u nc e=>by rw[ze (zh e hlf)];exact s8A _ _ (k78 c u nc (s37 _ _ (k3 c u nc e)))
  ·rintro σ' H3 ⟨⟨o2,o3,o4,o5,o6,rfl⟩,ht3,⟨kvs,us,hk3,tb3,to3,hf3,R3⟩,k3⟩
   rw[List.length_map,List.take_length] at tb3 to3 R3
   exact⟨_,rfl,q lf us kvs H3 hlf hf3 R3 hk3 tb3 to3 k3⟩
end
section
variable{P:Program}{w:World}{K:PySem.W.Frag}{mg:Str->Option Value}{base:Heap}
theorem zfh{ws ms:List Str}:∀{rs:List D},(∀r∈rs,zL r=true)->zP ws ms rs= .non\/∃i,zP ws ms rs= .int i
 |[],_=> .inr ⟨0,rfl⟩
 |r::rs,h=>by
  rw[zP]
  by_cases z:zeA ws ms none (zhU r)=true
  ·rw[if_pos z]
   obtain⟨cs,x,rfl,_,_,hx⟩:=zgo (h r List.mem_cons_self)
   exact hx
  ·rw[if_neg z]
   exact zfh λr hr=>h r (List.mem_cons_of_mem _ hr)
theorem zjp{g:Str}{hs:List Str}{ps:List (Str×Str)}{lks hds:List D}(T:TownOk g hs ps lks hds){x:Str}(h:x∈hs):∃(j:Nat) (rs:List D),hs[j]?=some x/\lks[j]?=some (.tup rs)/\zA hs lks x=rs/\∀r∈rs,zL r=true:=by
 obtain⟨j,rs,e1,e2,hh⟩:=zoT T h
 exact⟨j,rs,e1,e2,zgz T.hs_nd e1 e2,hh.2⟩
def hrR(x:Str)(r:Hr):Prop:=match r.2 with|none=>True|some (w,ms)=>(∃ws,w=x::ws)/\w.length<=10/\(∀y∈w,zi y=true)/\(∀y∈ms,zi y=true)/\ms.length<=40
theorem zjr{nm x:Str}{r:Hr}{rs:List D}{e:WM}(hn:zi nm=true)(hl:∀r∈rs,zL r=true)(h:hrR x r)(o:zcU nm rs (x,r)=some e):EOk nm rs e/\GoOk nm (some e):=by
 obtain⟨n,b⟩:=r
 cases b with
 |none=>cases o
 |some p=>
  obtain⟨w,ms⟩:=p
  have o:(if nm∈w\/zcC (zP (nm::w) ms rs)=true then none else some (nm::w,ms))=some e:=o
  by_cases c:nm∈w\/zcC (zP (nm::w) ms rs)=true
  ·rw[if_pos c] at o;cases o
  ·rw[if_neg c] at o
   cases o
   obtain⟨⟨ws,ew⟩,lw,nw,nms,lm⟩:=h
   have nw':∀y∈nm::w,zi y=true:=λy hy=>(List.mem_cons.mp hy).elim (λz=>by rw[z];exact hn) (nw y)
   refine⟨⟨⟨w,rfl⟩,nw',nms,by show(nm::w).length<=80;rw[List.length_cons];omega,by show ms.length<=100;omega,?_⟩,⟨w,rfl,by omega⟩,nw',nms,lm⟩
   rcases zfh (ws:=nm::w) (ms:=ms) hl with z|⟨i,z⟩
   ·exact absurd (.inr (by rw[z];rfl)) c
   ·show zP (nm::w) ms rs= .int (wI rs (nm::w,ms))
    rw[z];unfold wI;simp only[z]
theorem ziN{nm:Str}{rs:List D}{m:Tb}{p:Str×Hr}:zci nm rs (m ++ [p])=zci nm rs m ++(zcU nm rs p).toList:=by
 unfold zci
 rw[List.filterMap_append]
 congr 1
theorem TbL.get{H:Hp}{kvs:List (Key×V)}{m:Tb}(h:TbL H kvs m):∀{i:Nat} {v:V},(kvs.map (·.2))[i]?=some v->∃p,m[i]?=some p/\TeO H v p.2:=by
 induction h with
 |nil=>intro i v e;cases e
 | @cons x v' r kvs m h t ih=>
   intro i v e
   cases i with
   |zero=>cases e;exact⟨_,rfl,h⟩
   |succ i=>exact ih e
theorem zmT{x:Str}{w:List Str}:(w.any λy=>decide (y=x))=decide (x∈w):=by
 rw[Bool.eq_iff_iff,decide_eq_true_iff,List.any_eq_true]
 exact⟨λ⟨y,hy,e⟩=>by rw[←of_decide_eq_true e];exact hy,λh=>⟨_,h,decide_eq_true rfl⟩⟩
theorem PairO.mono{H H':Hp}{b:Addr}{e:WM}(h:PairO H b e)(m:∀c xs,H c=some (.tup xs)->H' c=some (.tup xs)):PairO H' b e:=let⟨pw,pm,h1,h2,h3⟩:=h;⟨pw,pm,m _ _ h1,m _ _ h2,m _ _ h3⟩
theorem Rep.monoT{H H':Hp}{v:V}{d:D}(h:Rep H v d)(m:∀c xs,H c=some (.tup xs)->H' c=some (.tup xs)):okD d=true->Rep H' v d:=by
 induction h with
 |non=>exact λ_=> .non
 |bl b=>exact λ_=> .bl b
 |int i=>exact λ_=> .int i
 |str x h=>exact λ_=> .str x h
 |tup h l b r ih=>
  intro o
  rw[okD] at o
  exact .tup (m _ _ h) l b λi v d e1 e2=>ih i v d e1 e2 (zjR o d (List.mem_of_getElem? e2))
 |lst h=>intro o;cases o
 |dK h=>intro o;cases o
theorem zau{H H':Hp}{v:V}{g:Str}{hs:List Str}{ps:List (Str×Str)}{lks hds:List D}(h:Rep H v (zar g hs ps lks hds))(T:TownOk g hs ps lks hds)(m:∀c xs,H c=some (.tup xs)->H' c=some (.tup xs)):Rep H' v (zar g hs ps lks hds):=Rep.monoT h m (zmg T (by have:=T.lp;omega)).1
noncomputable def zhW(C:Addr):Sp:=λvs H Q _=>∃(p dx hd td ga:Addr) (v:V) (nm:Str) (n:Int) (kh:List (Key×V)) (hm:Tb) (g:Str) (hs:List Str) (ps:List (Str×Str)) (lks hds:List D),vs=[.ref p]/\H p=some (.ins C dx (zcR v nm hd td ga n))/\H hd=some (.dK kh)/\TbL H kh hm/\TbOk hs hrR hm/\Rep H v (zar g hs ps lks hds)/\TownOk g hs ps lks hds/\nm∈hs/\
 ∀(l:Addr) (us:List V) (H':Hp),H l=none->H' l=some (.lst us)->AtG PairO H' us (zci nm (zA hs lks nm) hm)->Same H H'->Q (.ref l) H'
theorem zkn(Y:Ev K mg):FnOk P w K mg base CX0 6 Y.a_House_open_ways Y.d_House_open_ways zaf (zhW Y.c_House):=by
 have G_worth:FnOk P w K mg base CX0 5 Y.a_worth Y.d_worth zdf zgZ:=zil Y
 refine Y.House_open_ways.fn.okQ c_House_open_ways (λvs H Q E h=>?_) (λcdv A outer s H vs Q E hr h=>?_)
 ·obtain ⟨p,dx,hd,td,ga,v,nm,n,kh,hm,g,hs,ps,lks,hds,rfl,_⟩:=h;rfl
 ·obtain ⟨p,dx,hd,td,ga,v,nm,n,kh,hm,g,hs,ps,lks,hds,rfl,hp,hhd,tb,tok,hv,T,hnm,q⟩:=h
  have T10:=T.ten
  have hml:=tok.len
  obtain⟨j,rs,hj,hlj,er,hlk⟩:=zjp T hnm
  rw[er] at q
  have hnn:=T.names nm hnm
  refine⟨_,(zf (zw 1 c_House_open_ways.nd (zbL zd))
   (zf (zbw PassesOwn.never rfl (zpm (zaO (qv 0))) (zcO 3 rfl (zv (zr 2 c_House_open_ways.nd) (zv (zr 3 c_House_open_ways.nd) (zv (zr 4 c_House_open_ways.nd) zbu)))) (zf (zaQ (t_w (znf (zB zgN (qv 3) zch) (zji (zB zd3 (zaO (qv 0)) (qv 3))))) (zk zk4) z8)
   (zk (zaQ (zB zm5 (zj G_worth (hr.mono (by decide)) Y.worth.mg Y.worth.kp Y.worth.b .nil zo (za (zaO (qv 0)) (za (zz zdO (zD (za (zaO (qv 0)) zd)) (qv 3)) (za (qv 4) zd)))) zch) (zk (zcm (zfr PySem.F.plainAttrs_list PySem.F.slot_list_append PySem.F.type_list_append zaS (qv 1) (za (zD (za (zz zdO (zD (za (zaO (qv 0)) zd)) (qv 3)) (za (qv 4) zd))) zd)))) z8))))
   (zk (zx (zon (qv 1)))))),?_⟩
  refine⟨few rfl,λlf hlf=>?_⟩
  have S1:=Same.new (o:= .lst ([]:List V)) hlf
  have nlh:lf≠hd:=Ne.symm (zh hhd hlf)
  have nph:p≠hd:=zQ hp hhd (λz=>nomatch z)
  refine⟨_,rfl,p,_,dx,_,_,rfl,S1 _ _ hp,Y.k_House,Y.n_House_hearings,zgI,hd,kh,rfl,S1 _ _ hhd,λob nd=>?_⟩
  refine zaK zn7 (λi σ' H'=>(∃o2 o3 o4,σ'=[some (.ref p),some (.ref lf),o2,o3,o4])/\H' hd=some (.frz ob (.dK kh))/\(∃us,H' lf=some (.lst us)/\AtG PairO H' us (zci nm rs (hm.take i)))/\(∀c o,c≠hd->H c=some o->H' c=some o)) ?_ ?_ ?_ ?_
  ·refine ⟨⟨_,_,_,rfl⟩,zb,⟨[],?_,rfl,λi v p e=>by cases e⟩,λc o n e=>?_⟩
   ·rw[ze nlh];exact zb
   ·rw[ze n];exact S1 _ _ e
  ·exact λi σ' H' z=>z.2.1
  ·rintro i y σ' H3 hi hy ⟨⟨o2,o3,o4,rfl⟩,hz3,⟨us,hf3,R3⟩,k3⟩
   obtain⟨pr,ep,t,x,yy,rfl,ht,wa⟩:=tb.get hy
   have hpr:=List.mem_of_getElem? ep
   have hok:=(tok.mem pr hpr).2
   have tk:hm.take (i+1)=hm.take i ++ [pr]:=by rw[List.take_add_one,ep];rfl
   have lo:(zci nm rs (hm.take i)).length<=10:=Nat.le_trans (List.length_filterMap_le _ _) (by rw[List.length_take];omega)
   rw[tk,ziN]
   have kt:∀c xs,H c=some (.tup xs)->H3 c=some (.tup xs):=λc xs e=>k3 _ _ (zQ e hhd (λz=>nomatch z)) e
   have hp3:=k3 _ _ nph hp
   have wa3:=wa.mono kt
   have ht3:=kt _ _ ht
   have ul:=R3.1
   generalize zci nm rs (hm.take i)=es at *
   obtain⟨px,nr,b⟩:=pr
   refine⟨t,_,rfl, .inl (.inl ht3),rfl,_,_,rfl,_,_,rfl,_,_,rfl,rfl,?_⟩
   match b,wa3,hok with
   |none,⟨ex,e,ey,h2⟩,_=>
    subst ex ey
    refine⟨_,rfl,rfl,_,rfl,zbA rfl (zbA rfl ⟨⟨_,_,_,rfl⟩,hz3,⟨us,hf3,?_⟩,k3⟩)⟩
    show AtG PairO H3 us (es ++ [])
    rw[List.append_nil];exact R3
   |some (w,ms),⟨pw,pm,ex,ey,h2,h3⟩,hok=>
    subst ex ey
    obtain⟨⟨ws,ew⟩,lw,nw,nms,lm⟩:=id hok
    refine⟨_,rfl,rfl,_,rfl,zbM rfl ?_⟩
    refine⟨_,rfl,p,_,dx,_,_,rfl,hp3,Y.k_House,Y.n_House_name,zck,_,rfl,pw,_,rfl, .inr (.inl (.inl h2)),rfl,zdh,_,rfl,?_⟩
    rw[zeL,zmT]
    have oe:zcU nm rs (px,nr,some (w,ms))=if nm∈w\/zcC (zP (nm::w) ms rs)=true then none else some (nm::w,ms):=rfl
    by_cases c:nm∈w
    ·rw[decide_eq_true c]
     refine zbA rfl ⟨⟨_,_,_,rfl⟩,hz3,⟨us,hf3,?_⟩,k3⟩
     rw[oe,if_pos (.inl c)]
     show AtG PairO H3 us (es ++ [])
     rw[List.append_nil];exact R3
    rw[decide_eq_false c]
    refine zbM rfl ?_
    refine⟨_,rfl,p,_,dx,_,_,rfl,hp3,Y.k_House,Y.n_House_place,zcu,_,rfl,p,_,dx,_,_,rfl,hp3,Y.k_House,Y.n_House_name,zck,few rfl,λb1 hb1=>?_⟩
    have B1:=Same.new (o:= .tup [V.str nm]) hb1
    refine⟨_,rfl,zb7 (xs:=[V.str nm]) (ys:=w.map V.str) zb (B1 _ _ h2) (by rw[List.length_map];show 1+_<=_;omega) λb2 H4 hb2 s4=>?_⟩
    have hb2:H4 b2=some (.tup ((nm::w).map V.str)):=hb2
    have s34:=B1.trans s4
    have nw':∀y∈nm::w,zi y=true:=λy hy=>(List.mem_cons.mp hy).elim (λz=>by rw[z];exact hnn) (nw y)
    have hv4:Rep H4 v (zar g hs ps lks hds):=(zau hv T kt).same s34
    refine⟨_,rfl,v,b2,pm,nm,w,ms,g,hs,ps,lks,hds,j,rs,rfl,hv4,T,hj,hlj,hb2,s34 _ _ h3,nw',nms,by omega,by omega,λu H5 ru s5=>⟨rfl,_,rfl,?_⟩⟩
    rw[zmP ru]
    have s35:=s34.trans s5
    cases eb:zcC (zP (nm::w) ms rs)with
    |true=>
     refine zbM rfl ⟨⟨_,_,_,rfl⟩,s35 _ _ hz3,⟨us,s35 _ _ hf3,?_⟩,λc o n e=>s35 _ _ (k3 c o n e)⟩
     rw[oe,if_pos (.inr eb)]
     show AtG PairO H5 us (es ++ [])
     rw[List.append_nil];exact AtG.mono R3 λc e h=>PairO.mono h λc xs e=>s35 _ _ e
    |false=>
     have hp5:=s35 _ _ hp3
     have hf5:=s35 _ _ hf3
     refine zbA rfl ⟨_,rfl, .inl ⟨rfl,_,SqL.of hf5⟩,_,rfl,p,_,dx,_,_,rfl,hp5,Y.k_House,Y.n_House_name,zck,few rfl,λb6 hb6=>?_⟩
     have B6:=Same.new (o:= .tup [V.str nm]) hb6
     refine⟨_,rfl,zb7 (xs:=[V.str nm]) (ys:=w.map V.str) zb (B6 _ _ (s35 _ _ h2)) (by rw[List.length_map];show 1+_<=_;omega) λb7 H7 hb7 s7=>?_⟩
     have hb7:H7 b7=some (.tup ((nm::w).map V.str)):=hb7
     refine⟨_,rfl,few rfl,λb8 hb8=>?_⟩
     have B8:=Same.new (o:= .tup [V.ref b7,V.ref pm]) hb8
     have s38:=((s35.trans B6).trans s7).trans B8
     have e8:(upd H7 b8 (.tup [V.ref b7,V.ref pm])) b8=some (.tup [V.ref b7,V.ref pm]):=zb
     have hb78:=B8 _ _ hb7
     generalize (upd H7 b8 (HO.tup [V.ref b7,V.ref pm]))=H8 at *
     have hf8:=s38 _ _ hf3
     have up:∀c xs,H8 c=some (.tup xs)->upd H8 lf (.lst (us ++ [.ref b8])) c=some (.tup xs):=λc xs e=>by rw[ze (zQ e hf8 (λz=>nomatch z))];exact e
     refine⟨lf,us,_,rfl,rfl,hf8,zm (by omega),⟨_,_,_,rfl⟩,?_,⟨us ++ [.ref b8],zb,?_⟩,λc o n e=>?_⟩
     ·rw[ze (Ne.symm nlh)];exact s38 _ _ hz3
     ·rw[oe,if_neg (λz=>z.elim c (λz=>by rw[eb] at z;cases z))]
      exact AtG.snoc (AtG.mono R3 λc e h=>PairO.mono h λc xs e=>up _ _ (s38 _ _ e)) ⟨b7,pm,up _ _ e8,up _ _ hb78,up _ _ (s38 _ _ h3)⟩
     ·rw[ze (zh e hlf)];exact s38 _ _ (k3 c o n e)
  ·rintro σ' H3 ⟨⟨o2,o3,o4,rfl⟩,hz3,⟨us,hf3,R3⟩,k3⟩
   rw[List.length_map,tb.len,List.take_length] at R3
   refine⟨_,rfl,hd,ob, .dK kh,hz3,(λo' u' z=>by have z:H hd=some (.frz o' u'):=z;rw[hhd] at z;cases z),?_⟩
   have up:∀c xs,H3 c=some (.tup xs)->upd H3 hd (.dK kh) c=some (.tup xs):=λc xs e=>by rw[ze (zQ e hz3 (λz=>nomatch z))];exact e
   refine q lf us _ hlf (by rw[ze nlh];exact hf3) (AtG.mono R3 λc e h=>PairO.mono h up) λc o e=>?_
   by_cases z:c=hd
   ·rw[z,zb];rw[z,hhd] at e;exact e
   ·rw[ze z];exact k3 c o z e
end
section
variable{P:Program}{w:World}{K:PySem.W.Frag}{mg:Str->Option Value}{base:Heap}
structure HsAt(C:Addr)(hs:List Str)(H:Hp)(p dx hd td ga:Addr)(v:V)(nm:Str)(n:Int)(b:Option WM)(kh:List (Key×V))(hm:Tb)(kt:List (Key×V))(tm:Tb):Prop where
 hp:H p=some (.ins C dx (zcR v nm hd td ga n))
 hh:H hd=some (.dK kh)
 th:TbL H kh hm
 oh:TbOk hs hrR hm
 ht:H td=some (.dK kt)
 tt:TbL H kt tm
 ot:TbOk hs wmR tm
 gr:GoR H ga b
 go:GoOk nm b
 ne:hd≠td
structure HInv(g nm:Str)(lrs hrs:List D)(os:List Str)(b:Option WM)(hm tm:Tb)(L:List Lt):Prop where
 goal:nm=g->b=some ([nm],[])
 best:nm≠g->zgv lrs (zci nm lrs hm) b
 told:∀o∈os,zao tm o=zcc hrs b o
 last:∀y,zb1 L y=zao tm y
noncomputable def zgt(C:Addr):Sp:=λvs H Q _=>∃(p dx hd td ga:Addr) (v:V) (nm:Str) (n:Int) (g:Str) (hs:List Str) (ps:List (Str×Str)) (lks hds:List D),vs=[.ref p]/\HsAt C hs H p dx hd td ga v nm n none [] [] [] []/\Rep H v (zar g hs ps lks hds)/\TownOk g hs ps lks hds/\(∀d∈hds,∃ds,d= .tup ds/\ds.length<=12)/\nm∈hs/\
 ∀(l ga':Addr) (us:List V) (n':Int) (b:Option WM) (kt:List (Key×V)) (tm:Tb) (L:List Lt) (H':Hp),H l=none->H' l=some (.lst us)->LtsO H' nm us L->HsAt C hs H' p dx hd td ga' v nm n' b [] [] kt tm->HInv g nm (zA hs lks nm) (zA hs hds nm) (due hs ps nm) b [] tm L->(∀c o,c≠p->c≠hd->c≠td->H c=some o->H' c=some o)->L.length<=10->Q (.ref l) H'
theorem zdb{H:Hp}{v:V}{g:Str}{hs:List Str}{ps:List (Str×Str)}{lks hds:List D}(h:Rep H v (zar g hs ps lks hds)):∃pt us,v= .ref pt/\H pt=some (.tup us)/\us[0]?=some (.str g):=by
 obtain⟨pt,us,rfl,hp,rr,_⟩:=h.ofT
 have h0:0<us.length:=by rw[rr.1];exact Nat.zero_lt_succ _
 have:=rr.2 0 us[0] (.str g) (List.getElem?_eq_getElem h0) rfl
 refine⟨pt,us,rfl,hp,?_⟩
 rw[List.getElem?_eq_getElem h0]
 cases hh:us[0] with
 |str y=>rw[hh] at this;cases this;rfl
 |_=>rw[hh] at this;cases this
theorem ziq(Y:Ev K mg):FnOk P w K mg base CX0 8 Y.a_House_begin Y.d_House_begin za1 (zgt Y.c_House):=by
 have G_House_letters:FnOk P w K mg base CX0 7 Y.a_House_letters Y.d_House_letters zaa (zfo Y.c_House):=zgw Y
 have G_House_go_by:FnOk P w K mg base CX0 1 Y.a_House_go_by Y.d_House_go_by zaA (zfa Y.c_House):=zgk Y
 refine Y.House_begin.fn.okQ zfT (λvs H Q E h=>?_) (λcdv A outer s H vs Q E hr h=>?_)
 ·obtain ⟨p,dx,hd,td,ga,v,nm,n,g,hs,ps,lks,hds,rfl,_⟩:=h;rfl
 ·obtain ⟨p,dx,hd,td,ga,v,nm,n,g,hs,ps,lks,hds,rfl,A0,hv,T,hf,hnm,q⟩:=h
  obtain⟨pt,us,rfl,hpt,h0⟩:=zdb hv
  have hp:=A0.hp
  have npt:p≠td:=zQ hp A0.ht (λz=>nomatch z)
  have nph:p≠hd:=zQ hp A0.hh (λz=>nomatch z)
  refine⟨_,(zeU (zaQ (zB zaL (zaO (qv 0)) (zM ix_tup (zaO (qv 0)) zg)) (zk (zcm (zd4 (qv 0) Y.k_House Y.House_go_by.m G_House_go_by (hr.mono (by decide)) Y.House_go_by.b .nil zo (za (zD (za (zD (za (zaO (qv 0)) zd)) (za (zD zd) zd))) zd)))) z8)
   (zk (zx (zcE (qv 0) Y.k_House Y.House_letters.m G_House_letters (hr.mono (by decide)) Y.House_letters.b .nil zo)))),?_⟩
  refine⟨λσ' H'=>σ'=[some (.ref p)]/\∃ga' n' b,H' p=some (.ins Y.c_House dx (zcR (.ref pt) nm hd td ga' n'))/\GoR H' ga' b/\GoOk nm b/\(nm=g->b=some ([nm],[]))/\(nm≠g->b=none)/\Keep p H H',?_,?_⟩
  ·refine ⟨_,rfl,p,_,dx,_,_,rfl,hp,Y.k_House,Y.n_House_name,zck,_,rfl,p,_,dx,_,_,rfl,hp,Y.k_House,Y.n_House_place,zcu,pt,us,0,_,rfl,rfl, .inl (.inl hpt),zI (j:=0) h0,rfl,_,rfl,?_⟩
   rw[show decide (V.str nm=V.str g)=decide (nm=g)from decide_eq_decide.mpr ⟨λz=>by injection z,λz=>by rw[z]⟩]
   by_cases e:nm=g
   ·rw[decide_eq_true e]
    refine zbA rfl ⟨_,rfl,p,dx,_,rfl,hp,rfl,_,rfl,p,_,dx,_,_,rfl,hp,Y.k_House,Y.n_House_name,zck,few rfl,λwt hwt=>⟨few rfl,λmt hmt=>⟨few rfl,λg' hg'=>?_⟩⟩⟩
    have S1:=Same.new (o:= .tup [V.str nm]) hwt
    have S2:=Same.new (o:= .tup ([]:List V)) hmt
    have S3:=Same.new (o:= .tup [V.ref wt,V.ref mt]) hg'
    have s13:=S1.trans (S2.trans S3)
    have hp3:=s13 _ _ hp
    have e1:=S3 _ _ (S2 _ _ (zb (H:=H) (a:=wt) (o:= .tup [V.str nm])))
    have e2:=S3 _ _ (zb (H:=upd H wt (.tup [V.str nm])) (a:=mt) (o:= .tup ([]:List V)))
    have gok:GoOk nm (some ([nm],[])):=⟨⟨[],rfl,Nat.zero_le _⟩,λy hy=>by rw[List.mem_singleton.mp hy];exact T.names nm hnm,(λ_ z=>nomatch z),Nat.zero_le _⟩
    have G3:GoR (upd (upd (upd H wt (.tup [V.str nm])) mt (.tup ([]:List V))) g' (.tup [V.ref wt,V.ref mt])) g' (some ([nm],[])):=⟨_,_,zb,wt,mt,rfl,rfl,e1,e2⟩
    refine⟨p,dx,hd,td,ga,g', .ref pt,nm,n,none,some ([nm],[]),rfl,hp3,A0.gr.mono λc xs e=>s13 _ _ e,G3,trivial,gok.wm,λn'=>⟨rfl,g',n',_,zb,G3.mono λc xs e=>?_,gok,λ_=>rfl,λz=>absurd e z,(Keep.of s13).trans (Keep.upd _ _ _)⟩⟩
    rw[ze (zQ e hp3 (λz=>nomatch z))];exact e
   ·rw[decide_eq_false e]
    exact zbM rfl ⟨rfl,ga,n,none,hp,A0.gr,trivial,λz=>absurd z e,λ_=>rfl,Keep.refl _ _⟩
  ·rintro σ' H1 ⟨rfl,ga',n',b,hp1,G1,gok,eg,eg',k1⟩
   have htd1:=k1 _ _ (Ne.symm npt) A0.ht
   have m1:∀c xs,H c=some (.tup xs)->H1 c=some (.tup xs):=λc xs e=>k1 _ _ (zQ e hp (λz=>nomatch z)) e
   have hv1:=zau hv T m1
   refine⟨_,rfl,p,dx,_,rfl,hp1,rfl,p,dx,hd,td,ga', .ref pt,nm,n',b,[],[],g,hs,ps,lks,hds,rfl,hp1,htd1, .nil, .nil,hv1,T,hf,hnm,G1,gok,λl us2 kt H2 hl hl2 R2 htd2 tb2 tok2 k2=>?_⟩
   have hl0:H l=none:=by
    cases z:H l with
    |none=>rfl
    |some u=>
     by_cases y:l=p
     ·rw[y,hp1] at hl;cases hl
     ·rw[k1 l u y z] at hl;cases hl
   have dl:∀{hr:List D} {b:Option WM} {tm:Tb},(zcT hr b tm (due hs ps nm)).length<=10:=λ{hr b tm}=>Nat.le_trans zdU (Nat.le_trans (List.length_filter_le _ _) T.ten)
   have m2:∀c xs,H1 c=some (.tup xs)->H2 c=some (.tup xs):=λc xs e=>k2 _ _ (zQ e htd1 (λz=>nomatch z)) e
   refine q l ga' us2 n' b kt _ _ H2 hl0 hl2 R2 ⟨k2 _ _ npt hp1,k2 _ _ A0.ne (k1 _ _ (Ne.symm nph) A0.hh), .nil, .nil,htd2,tb2,tok2,G1.mono m2,gok,A0.ne⟩ ⟨eg,λz=>?_,λo ho=>by rw[zdt,if_pos ho],?_⟩ (λc o n1 n2 n3 e=>k2 c o n3 (k1 c o n1 e)) dl
   ·rw[eg' z];rfl
   ·exact zd6 (T:=[]) λy=>rfl
theorem zgb{nm:Str}{rs:List D}{p:Str×Hr}{e:WM}(h:hrR p.1 p.2)(o:zcU nm rs p=some e):∃ws,e.1=nm::p.1::ws:=by
 obtain⟨x,n,b⟩:=p
 cases b with
 |none=>cases o
 |some q=>
  obtain⟨w,ms⟩:=q
  have o:(if nm∈w\/zcC (zP (nm::w) ms rs)=true then none else some (nm::w,ms))=some e:=o
  by_cases c:nm∈w\/zcC (zP (nm::w) ms rs)=true
  ·rw[if_pos c] at o;cases o
  ·rw[if_neg c] at o
   cases o
   obtain⟨⟨ws,ew⟩,_⟩:=h
   exact⟨ws,by show nm::w=_;rw[ew]⟩
theorem zfb{nm:Str}{rs:List D}:∀{m:Tb},(m.map (·.1)).Nodup->(∀p∈m,hrR p.1 p.2)->((zci nm rs m).map (·.1)).Nodup
 |[],_,_=>List.nodup_nil
 |p::m,nd,h=>by
  rw[List.map_cons,List.nodup_cons] at nd
  have ih:=zfb (nm:=nm) (rs:=rs) (m:=m) nd.2 λp hp=>h p (List.mem_cons_of_mem _ hp)
  show((List.filterMap (zcU nm rs) (p::m)).map (·.1)).Nodup
  cases e:zcU nm rs p with
  |none=>rw[List.filterMap_cons_none e];exact ih
  |some w=>
   rw[List.filterMap_cons_some e,List.map_cons,List.nodup_cons]
   refine⟨λz=>?_,ih⟩
   obtain⟨w',hw',ew⟩:=List.mem_map.mp z
   obtain⟨p',hp',e'⟩:=List.mem_filterMap.mp hw'
   obtain⟨ws,h1⟩:=zgb (h p List.mem_cons_self) e
   obtain⟨ws',h2⟩:=zgb (h p' (List.mem_cons_of_mem _ hp')) e'
   rw[h1,h2] at ew
   injection ew with _ ew
   injection ew with ew _
   exact nd.1 (by rw[←ew];exact List.mem_map.mpr ⟨p',hp',rfl⟩)
noncomputable def zfs(C:Addr):Sp:=λvs H Q _=>∃(p dx hd td ga:Addr) (v:V) (nm:Str) (n:Int) (b:Option WM) (kh kt:List (Key×V)) (hm tm:Tb) (L0:List Lt) (g:Str) (hs:List Str) (ps:List (Str×Str)) (lks hds:List D),vs=[.ref p]/\HsAt C hs H p dx hd td ga v nm n b kh hm kt tm/\(nm=g->b=some ([nm],[]))/\(∀y,zb1 L0 y=zao tm y)/\Rep H v (zar g hs ps lks hds)/\TownOk g hs ps lks hds/\(∀d∈hds,∃ds,d= .tup ds/\ds.length<=12)/\nm∈hs/\
 ∀(l ga':Addr) (us:List V) (n':Int) (b':Option WM) (kt':List (Key×V)) (tm':Tb) (L:List Lt) (H':Hp),H l=none->H' l=some (.lst us)->LtsO H' nm us L->HsAt C hs H' p dx hd td ga' v nm n' b' kh hm kt' tm'->HInv g nm (zA hs lks nm) (zA hs hds nm) (due hs ps nm) b' hm tm' (L0 ++L)->(∀c o,c≠p->c≠td->H c=some o->H' c=some o)->L.length<=10->Q (.ref l) H'
theorem zhI(Y:Ev K mg):FnOk P w K mg base CX0 8 Y.a_House_choose Y.d_House_choose zaM (zfs Y.c_House):=by
 have G_House_letters:FnOk P w K mg base CX0 7 Y.a_House_letters Y.d_House_letters zaa (zfo Y.c_House):=zgw Y
 have G_House_go_by:FnOk P w K mg base CX0 1 Y.a_House_go_by Y.d_House_go_by zaA (zfa Y.c_House):=zgk Y
 have G_House_open_ways:FnOk P w K mg base CX0 6 Y.a_House_open_ways Y.d_House_open_ways zaf (zhW Y.c_House):=zkn Y
 have G_most_liked:FnOk P w K mg base CX0 7 Y.a_most_liked Y.d_most_liked zbj zpr:=zfO Y
 refine Y.House_choose.fn.okQ ze4 (λvs H Q E h=>?_) (λcdv A outer s H vs Q E hr h=>?_)
 ·obtain ⟨p,dx,hd,td,ga,v,nm,n,b,kh,kt,hm,tm,L0,g,hs,ps,lks,hds,rfl,_⟩:=h;rfl
 ·obtain ⟨p,dx,hd,td,ga,v,nm,n,b,kh,kt,hm,tm,L0,g,hs,ps,lks,hds,rfl,A0,eg,lst,hv,T,hf,hnm,q⟩:=h
  obtain⟨pt,us,rfl,hpt,h0⟩:=zdb hv
  have hp:=A0.hp
  have npt:p≠td:=zQ hp A0.ht (λz=>nomatch z)
  have nph:p≠hd:=zQ hp A0.hh (λz=>nomatch z)
  obtain⟨j,rs,hj,hlj,er,hlk⟩:=zjp T hnm
  have hml:=A0.oh.len
  have T10:=T.ten
  rw[er] at q
  refine⟨_,(zeU (zaQ (zB zhS (zaO (qv 0)) (zM ix_tup (zaO (qv 0)) zg)) (zk (zcm (zd4 (qv 0) Y.k_House Y.House_go_by.m G_House_go_by (hr.mono (by decide)) Y.House_go_by.b .nil zo (za (zj G_most_liked (hr.mono (by decide)) Y.most_liked.mg Y.most_liked.kp Y.most_liked.b .nil zo (za (zaO (qv 0)) (za (zcE (qv 0) Y.k_House Y.House_open_ways.m G_House_open_ways (hr.mono (by decide)) Y.House_open_ways.b .nil zo) zd))) zd)))) z8)
   (zk (zx (zcE (qv 0) Y.k_House Y.House_letters.m G_House_letters (hr.mono (by decide)) Y.House_letters.b .nil zo)))),?_⟩
  refine⟨λσ' H'=>σ'=[some (.ref p)]/\∃ga' n' b',H' p=some (.ins Y.c_House dx (zcR (.ref pt) nm hd td ga' n'))/\GoR H' ga' b'/\GoOk nm b'/\(nm=g->b'=some ([nm],[]))/\(nm≠g->zgv rs (zci nm rs hm) b')/\Keep p H H',?_,?_⟩
  ·refine ⟨_,rfl,p,_,dx,_,_,rfl,hp,Y.k_House,Y.n_House_name,zck,_,rfl,p,_,dx,_,_,rfl,hp,Y.k_House,Y.n_House_place,zcu,pt,us,0,_,rfl,rfl, .inl (.inl hpt),zI (j:=0) h0,rfl,_,rfl,?_⟩
   rw[show decide (V.str nm=V.str g)=decide (nm=g)from decide_eq_decide.mpr ⟨λz=>by injection z,λz=>by rw[z]⟩]
   by_cases e:nm=g
   ·rw[decide_eq_true e]
    exact zbM rfl ⟨rfl,ga,n,b,hp,A0.gr,A0.go,eg,λz=>absurd e z,Keep.refl _ _⟩
   ·rw[decide_eq_false e]
    have uq:=zfb (nm:=nm) (rs:=rs) A0.oh.nd λp hp=>(A0.oh.mem p hp).2
    refine zbA rfl ⟨_,rfl,p,dx,_,rfl,hp,rfl,_,rfl,p,_,dx,_,_,rfl,hp,Y.k_House,Y.n_House_place,zcu,_,rfl,p,dx,_,rfl,hp,rfl,p,dx,hd,td,ga, .ref pt,nm,n,kh,hm,g,hs,ps,lks,hds,rfl,hp,A0.hh,A0.th,A0.oh,hv,T,hnm,λl us' H1 hl hl1 R1 s1=>?_⟩
    rw[er] at R1
    refine⟨.ref pt,l,us',zci nm rs hm,nm,g,hs,ps,lks,hds,j,rs,rfl,hv.same s1,T,hj,hlj,hl1,R1,?_,uq,λe he=>?_,λg' b' H2 be G2 s2=>?_⟩
    ·exact Nat.lt_of_le_of_lt (List.length_filterMap_le _ _) (by omega)
    ·obtain ⟨x,r,lk,o⟩:=(zdg A0.oh.nd).mp he
     exact(zjr (T.names nm hnm) hlk (A0.oh.look lk) o).1
    have s12:=s1.trans s2
    have gok:GoOk nm b':=by
     cases b' with
     |none=>exact trivial
     |some e=>
      obtain⟨x,r,lk,o⟩:=(zdg A0.oh.nd).mp be.1
      exact(zjr (T.names nm hnm) hlk (A0.oh.look lk) o).2
    have hp2:=s12 _ _ hp
    refine⟨p,dx,hd,td,ga,g', .ref pt,nm,n,b,b',rfl,hp2,A0.gr.mono λc xs e=>s12 _ _ e,G2,A0.go.wm,gok.wm,λn'=>⟨rfl,g',n',b',zb,G2.mono λc xs e=>?_,gok,λz=>absurd z e,λ_=>be,(Keep.of s12).trans (Keep.upd _ _ _)⟩⟩
    rw[ze (zQ e hp2 (λz=>nomatch z))];exact e
  ·rintro σ' H1 ⟨rfl,ga',n',b',hp1,G1,gok,eg,be,k1⟩
   have htd1:=k1 _ _ (Ne.symm npt) A0.ht
   have m1:∀c xs,H c=some (.tup xs)->H1 c=some (.tup xs):=λc xs e=>k1 _ _ (zQ e hp (λz=>nomatch z)) e
   have hv1:=zau hv T m1
   refine⟨_,rfl,p,dx,_,rfl,hp1,rfl,p,dx,hd,td,ga', .ref pt,nm,n',b',kt,tm,g,hs,ps,lks,hds,rfl,hp1,htd1,A0.tt.mono m1,A0.ot,hv1,T,hf,hnm,G1,gok,λl us2 kt2 H2 hl hl2 R2 htd2 tb2 tok2 k2=>?_⟩
   have hl0:H l=none:=by
    cases z:H l with
    |none=>rfl
    |some u=>
     by_cases y:l=p
     ·rw[y,hp1] at hl;cases hl
     ·rw[k1 l u y z] at hl;cases hl
   have dl:∀{hr:List D} {b:Option WM} {tm:Tb},(zcT hr b tm (due hs ps nm)).length<=10:=λ{hr b tm}=>Nat.le_trans zdU (Nat.le_trans (List.length_filter_le _ _) T.ten)
   have m2:∀c xs,H1 c=some (.tup xs)->H2 c=some (.tup xs):=λc xs e=>k2 _ _ (zQ e htd1 (λz=>nomatch z)) e
   have m12:∀c xs,H c=some (.tup xs)->H2 c=some (.tup xs):=λc xs e=>m2 _ _ (m1 _ _ e)
   exact q l ga' us2 n' b' kt2 _ _ H2 hl0 hl2 R2 ⟨k2 _ _ npt hp1,k2 _ _ A0.ne (k1 _ _ (Ne.symm nph) A0.hh),A0.th.mono m12,A0.oh,htd2,tb2,tok2,G1.mono m2,gok,A0.ne⟩ ⟨eg,be,λo ho=>by rw[zdt,if_pos ho],zd6 lst⟩ (λc o n1 n3 e=>k2 c o n3 (k1 c o n1 e)) dl
noncomputable def zhr(C:Addr):Sp:=λvs H Q _=>∃(p dx hd td ga:Addr) (v lv:V) (nm one:Str) (r:Hr) (n:Int) (b:Option WM) (kh kt:List (Key×V)) (hm tm:Tb) (L0:List Lt) (g:Str) (hs:List Str) (ps:List (Str×Str)) (lks hds:List D),vs=[.ref p,lv]/\LtO H lv one nm r/\one∈hs/\hrR one r/\HsAt C hs H p dx hd td ga v nm n b kh hm kt tm/\HInv g nm (zA hs lks nm) (zA hs hds nm) (due hs ps nm) b hm tm L0/\Rep H v (zar g hs ps lks hds)/\TownOk g hs ps lks hds/\(∀d∈hds,∃ds,d= .tup ds/\ds.length<=12)/\nm∈hs/\
 ∀(l ga':Addr) (us:List V) (n':Int) (b':Option WM) (kh' kt':List (Key×V)) (tm':Tb) (L:List Lt) (H':Hp),H l=none->H' l=some (.lst us)->LtsO H' nm us L->HsAt C hs H' p dx hd td ga' v nm n' b' kh' (zeo hm (one,r)) kt' tm'->HInv g nm (zA hs lks nm) (zA hs hds nm) (due hs ps nm) b' (zeo hm (one,r)) tm' (L0 ++L)->(∀c o,c≠p->c≠hd->c≠td->H c=some o->H' c=some o)->L.length<=10->Q (.ref l) H'
theorem zkx(Y:Ev K mg):FnOk P w K mg base CX0 9 Y.a_House_hear Y.d_House_hear zbh (zhr Y.c_House):=by
 have G_House_heard:FnOk P w K mg base CX0 1 Y.a_House_heard Y.d_House_heard zaF (zd5 Y.c_House Y.a_NOTHING):=zeS Y
 have G_House_choose:FnOk P w K mg base CX0 8 Y.a_House_choose Y.d_House_choose zaM (zfs Y.c_House):=zhI Y
 refine Y.House_hear.fn.okQ c_House_hear (λvs H Q E h=>?_) (λcdv A outer s H vs Q E hr h=>?_)
 ·obtain ⟨p,dx,hd,td,ga,v,lv,nm,one,r,n,b,kh,kt,hm,tm,L0,g,hs,ps,lks,hds,rfl,_⟩:=h;rfl
 ·obtain ⟨p,dx,hd,td,ga,v,lv,nm,one,r,n,b,kh,kt,hm,tm,L0,g,hs,ps,lks,hds,rfl,⟨t,x,y,rfl,ht,wa⟩,hone,hrr,A0,I0,hv,T,hf,hnm,q⟩:=h
  have hp:=A0.hp
  have npt:p≠td:=zQ hp A0.ht (λz=>nomatch z)
  have nph:p≠hd:=zQ hp A0.hh (λz=>nomatch z)
  have hml:=A0.oh.len
  have kl:=A0.th.len
  have T10:=T.ten
  refine⟨_,(zf (zcP (qv 1) (zcO 5 rfl (zv (zr 2 c_House_hear.nd) (zv (zr 3 c_House_hear.nd) (zv (zr 4 c_House_hear.nd) (zv (zr 5 c_House_hear.nd) (zv (zr 6 c_House_hear.nd) zbu)))))))
   (zf (zaQ (zB zpG (qv 4) (zM ix_tup (zd4 (qv 0) Y.k_House Y.House_heard.m G_House_heard (hr.mono (by decide)) Y.House_heard.b .nil zo (za (qv 2) zd)) zg)) (zk (zx (zbL zd))) z8)
   (zf (zc0 (hu1 hr) (zaO (qv 0)) (qv 2) (zD (za (qv 4) (za (qv 5) (za (qv 6) zd)))))
   (zk (zx (zcE (qv 0) Y.k_House Y.House_choose.m G_House_choose (hr.mono (by decide)) Y.House_choose.b .nil zo)))))),?_⟩
  refine⟨_,rfl,t,_,rfl, .inl (.inl ht),rfl,_,_,rfl,_,_,rfl,_,_,rfl,_,_,rfl,_,_,rfl,rfl,?_⟩
  refine⟨_,rfl,_,rfl,p,dx,_,rfl,hp,rfl,_,rfl,p,dx,hd,td,ga,v,nm,one,n,kh,rfl,hp,A0.hh,?_⟩
  obtain⟨A3,x3,y3,eA,hA⟩:∃A x y,(z3 kh (Sum.inr one)).getD (.ref Y.a_NOTHING)= .ref A/\SqT K H A [.int (zdA (zt hm one)),x,y]:=by
   rcases A0.th.look one with⟨e1,e2⟩|⟨r,v',e1,e2,t,x,y,rfl,ht,wa⟩
   ·rw[e1,e2];exact⟨Y.a_NOTHING,_,_,rfl,Y.t_NOTHING _⟩
   ·rw[e1,e2];exact⟨t,x,y,rfl, .inl (.inl ht)⟩
  rw[eA]
  refine⟨A3,_,0,_,rfl,rfl,hA,at0,_,_,rfl,rfl,_,rfl,?_⟩
  have eh:zeo hm (one,r)=if r.1<=zdA (zt hm one)then hm else zb3 hm one r:=rfl
  by_cases c:r.1<=zdA (zt hm one)
  ·rw[if_pos c] at eh
   rw[eh] at q
   refine zbA (decide_eq_true c) ⟨few rfl,λl hl=>?_⟩
   have S:=Same.new (o:= .lst ([]:List V)) hl
   have mS:∀c xs,H c=some (.tup xs)->(upd H l (.lst ([]:List V))) c=some (.tup xs):=λc xs e=>S _ _ e
   exact q l ga [] n b kh kt tm [] _ hl zb .nil ⟨S _ _ A0.hp,S _ _ A0.hh,A0.th.mono mS,A0.oh,S _ _ A0.ht,A0.tt.mono mS,A0.ot,A0.gr.mono mS,A0.go,A0.ne⟩ (by rw[List.append_nil];exact I0) (λc o _ _ _ e=>S _ _ e) (Nat.zero_le _)
  ·rw[if_neg c] at eh
   rw[eh] at q
   refine zbM (by rw[decide_eq_false c]) ?_
   refine⟨_,rfl,_,rfl,_,rfl,few rfl,λpr hpr=>?_⟩
   have S1:=Same.new (o:= .tup [V.int r.1,x,y]) hpr
   have e1:(upd H pr (.tup [V.int r.1,x,y])) pr=some (.tup [V.int r.1,x,y]):=zb
   generalize (upd H pr (HO.tup [V.int r.1,x,y]))=H1 at *
   have hh1:=S1 _ _ A0.hh
   refine⟨_,rfl,p,_,dx,_,_,rfl,S1 _ _ hp,Y.k_House,Y.n_House_hearings,zgI,_,rfl,hd,_,rfl, .inl ⟨kh,Sum.inr one,hh1,rfl,zm (by omega),rfl⟩,?_⟩
   have m12:∀c xs,H1 c=some (.tup xs)->upd H1 hd (.dK (z6 kh (Sum.inr one) (.ref pr))) c=some (.tup xs):=λc xs e=>by rw[ze (zQ e hh1 (λz=>nomatch z))];exact e
   have k12:Keep hd H1 (upd H1 hd (.dK (z6 kh (Sum.inr one) (.ref pr)))):=Keep.upd _ _ _
   have hh2:upd H1 hd (.dK (z6 kh (Sum.inr one) (.ref pr))) hd=some (.dK (z6 kh (Sum.inr one) (.ref pr))):=zb
   generalize (upd H1 hd (.dK (z6 kh (Sum.inr one) (.ref pr))))=H2 at *
   have m2:∀c xs,H c=some (.tup xs)->H2 c=some (.tup xs):=λc xs e=>m12 _ _ (S1 _ _ e)
   have k2:∀c o,c≠hd->H c=some o->H2 c=some o:=λc o n e=>k12 c o n (S1 _ _ e)
   have hp2:=k2 _ _ nph hp
   have A2:HsAt Y.c_House hs H2 p dx hd td ga v nm n b (z6 kh (Sum.inr one) (.ref pr)) (zb3 hm one r) kt tm:=⟨hp2,hh2,(A0.th.mono m2).put ⟨pr,x,y,rfl,m12 _ _ e1,wa.mono m2⟩,A0.oh.put hone hrr,k2 _ _ (Ne.symm A0.ne) A0.ht,A0.tt.mono m2,A0.ot,A0.gr.mono m2,A0.go,A0.ne⟩
   refine⟨_,rfl,p,dx,_,rfl,hp2,rfl,p,dx,hd,td,ga,v,nm,n,b,_,kt,_,tm,L0,g,hs,ps,lks,hds,rfl,A2,I0.goal,I0.last,zau hv T m2,T,hf,hnm,λl ga' us n' b' kt' tm' L H' hl hl' R' A' I' k' ll=>?_⟩
   have hl0:H l=none:=by
    cases z:H l with
    |none=>rfl
    |some u=>
     by_cases y:l=hd
     ·rw[y,hh2] at hl;cases hl
     ·rw[k2 l u y z] at hl;cases hl
   refine q l ga' us n' b' _ kt' tm' L H' hl0 hl' R' A' I' (λc o n1 n2 n3 e=>k' c o n1 n3 (k2 c o n2 e)) ll
end
section
variable{P:Program}{w:World}{K:PySem.W.Frag}{mg:Str->Option Value}{base:Heap}
def zqc(H:Hp)(x:Str)(v:V):Option (List Str)->Prop
 |none=>v= .non
 |some w=>∃pw,v= .ref pw/\H pw=some (.tup (w.map V.str))/\(∃ws,w=x::ws)/\w.length<=10/\∀y∈w,zi y=true
noncomputable def zh4:Sp:=λvs H Q _=>∃(a:Addr) (n:Int) (v:V) (x:Str) (g:Str) (hs:List Str) (ps:List (Str×Str)) (lks hds:List D),vs=[.ref a,v, .str x]/\Hand H a n/\n<2^37/\Rep H v (zar g hs ps lks hds)/\TownOk g hs ps lks hds/\x∈hs/\∀(v':V) (ow:Option (List Str)) (H':Hp),zqc H' x v' ow->Hand H' a (n+10)->Keep a H H'->Q v' H'
theorem zj2(Y:Ev K mg):FnOk P w K mg base CX0 3 Y.a__law_real_way Y.d__law_real_way zax zh4:=by
 have G_tied:FnOk P w K mg base CX0 1 Y.a_tied Y.d_tied zcD zeg:=zdE Y
 have G__law_pick:FnOk P w K mg base CX0 2 Y.a__law_pick Y.d__law_pick zF (zbs K):=zbD Y
 refine Y._law_real_way.fn.okQ c__law_real_way (λvs H Q E h=>?_) (λcdv A outer s H vs Q E hr h=>?_)
 ·obtain ⟨a,n,v,x,g,hs,ps,lks,hds,rfl,_⟩:=h;rfl
 ·obtain ⟨a,n,v,x,g,hs,ps,lks,hds,rfl,hH,hn,hv,T,hx,q⟩:=h
  obtain⟨pt,us,rfl,hpt,h0⟩:=zdb hv
  have T10:=T.ten
  have npa:∀{b o},H b=some (.tup o)->b≠a:=λ{b o} e z=>by obtain⟨_,_,_,e',_⟩:=hH;rw[z,e'] at e;cases e
  refine⟨_,(zf (zcp 3 c__law_real_way.nd (zD (za (qv 2) zd)))
   (zf (zjc (zB zhS (zM ix_tup (qc 3) (ziI zdy zg)) (zM ix_tup (qv 1) zg)) (zf (zcx 4 (src:=[none,some 3]) o__law_real_way_1 rfl rfl c__law_real_way.nd (zcA (zj G_tied (hr.mono (by decide)) Y.tied.mg Y.tied.kp Y.tied.b .nil zo (za (qv 1) (za (zM ix_tup (qc 3) (ziI zdy zg)) zd)))) (λ_ _ _ _ _=>(zr 0 o__law_real_way_1.nd)) (λ_ _ _ _ _=>(zgg (zB (zfN (K:=K) rfl) (qv 0) (qc 1)))) (λ_ _ _ _ _=>(qv 0)))
   (zf (zaQ (zB (zlV (ziz hr)) (qv 4) (zbL zd)) (zk (zx zch)) z8)
   (zk (zcp 3 c__law_real_way.nd (zz zdO (qc 3) (zD (za (zj G__law_pick (hr.mono (by decide)) Y._law_pick.mg Y._law_pick.kp Y._law_pick.b .nil zo (za (qv 0) (za (qv 4) zd))) zd))))))))
   (zk (zx (qc 3))))),?_⟩
  refine⟨_,rfl,few rfl,λpw hpw=>?_⟩
  have S1:=Same.new (o:= .tup [V.str x]) hpw
  refine⟨λm σ' H'=>∃pw w o4,σ'=[some (.ref a),some (.ref pt),some (.str x),some (.ref pw),o4]/\H' pw=some (.tup (w.map V.str))/\w.Nodup/\(∀y∈w,y∈hs)/\(∃ws,w=x::ws)/\m+w.length=10/\Hand H' a (n+w.length -1)/\Keep a H H',⟨9,pw,[x],_,rfl,zb,by simp,λy hy=>by rw[List.mem_singleton.mp hy];exact hx,⟨[],rfl⟩,rfl,(hH.same S1).mono (by show n<=n+((1:Nat):Int) -1;omega),Keep.of S1⟩,?_⟩
  rintro m σ' H1 ⟨pw,w,o4,rfl,hw,wnd,wh,⟨ws,ew⟩,ml,hH1,k1⟩
  have hpt1:=k1 _ _ (npa hpt) hpt
  obtain⟨w0,z,ez⟩:∃w0 z,w=w0 ++ [z]:=⟨w.dropLast,w.getLast (by rw[ew];simp),(List.dropLast_concat_getLast _).symm⟩
  have hat:atI (w.map V.str) (-1)=some (.str z):=by rw[ez,List.map_append];exact zl2 _ _
  have wn:∀y∈w,zi y=true:=λy hy=>T.names y (wh y hy)
  have hz:z∈hs:=wh z (by rw[ez];simp)
  refine⟨_,rfl,1,rfl,pw,_,-1,_,rfl,rfl, .inl (.inl hw),hat,_,rfl,pt,us,0,_,rfl,rfl, .inl (.inl hpt1),zI (j:=0) h0,rfl,_,rfl,?_⟩
  rw[zbR]
  by_cases e:z=g
  ·rw[decide_eq_true e]
   refine⟨_,rfl,q _ (some w) H1 ⟨pw,rfl,hw,⟨ws,ew⟩,by omega,wn⟩ (hH1.mono (by omega)) k1⟩
  rw[decide_eq_false e]
  have hv1:Rep H1 (.ref pt) (zar g hs ps lks hds):=hv.mono (.keep k1 hH hH1)
  refine⟨λσ' H'=>∃pw w' o4,σ'=[some (.ref a),some (.ref pt),some (.str x),some (.ref pw),o4]/\H' pw=some (.tup (w'.map V.str))/\w'.Nodup/\(∀y∈w',y∈hs)/\(∃ws,w'=x::ws)/\w'.length=w.length+1/\Hand H' a (n+w'.length -1)/\Keep a H H',?_,?_⟩
  ·rintro σ2 H2 ⟨pw',w',o4',rfl,hw',nd',wh',e',l',hH',k'⟩
   have l10:w'.length<=10:=Nat.le_trans (zct nd' wh') T10
   exact⟨m -1,by omega,pw',w',_,rfl,hw',nd',wh',e',by omega,hH',k'⟩
  refine⟨_,rfl,_,rfl,1,rfl,pw,_,-1,_,rfl,rfl, .inl (.inl hw),hat, .ref pt,z,g,hs,ps,lks,hds,rfl,hv1,T,λl ts H2 hl hl2 tp tsr s2=>?_⟩
  have tl:ts.length<=10:=by rw[tp.length_eq];exact zcY T z
  have tin:∀o∈ts,o∈hs:=λo ho=>zdd T (tp.mem_iff.mp ho)
  have hw2:=s2 _ _ hw
  refine⟨l,rfl,⟨_,SqL.of hl2⟩,?_⟩
  refine zjs (ds:=ts.map D.str) (g:=zlM w) (f:=λd=>d) (σr:=[some (.ref pw)]) (zbX (K:=K) (xs:=ts.map V.str)) (λH' s'=>SqL.of (s' _ _ hl2)) (zhQ λx hx=>zas (T.names x (tin x hx))) (by rw[List.length_map];omega) rfl ?_ (λx d HA sA rx hd=>by walk_at "dsp") λl7 us7 H7 s7 hl7 e7 r7=>?_
  ·intro x d HA Q1 sA rx hd q1
   obtain⟨b,_,rfl⟩:=List.mem_map.mp hd
   cases rx with|str _ _=>
   refine⟨_,rfl,_,rfl,pw,_,rfl, .inr (.inl (.inl (sA _ _ hw2))),rfl,zdh,_,rfl,?_⟩
   rw[if_pos rfl,zeL]
   exact q1 HA (Same.refl _)
  rw[List.map_id',zim] at r7
  have eus:=zgr r7
  subst eus
  have hx7:∀y∈ts.filter (λx=>!(w.any λy=>decide (y=x))),y∈hs/\y∉w:=λy hy=>by
   obtain⟨h1,h2⟩:=List.mem_filter.mp hy
   refine⟨tin y h1,λz=>?_⟩
   rw[List.any_eq_true.mpr ⟨y,z,decide_eq_true rfl⟩] at h2
   cases h2
  have hlen7:(ts.filter (λx=>!(w.any λy=>decide (y=x)))).length<=10:=Nat.le_trans (List.length_filter_le _ _) tl
  generalize (ts.filter (λx=>!(w.any λy=>decide (y=x))))=ys at *
  have s17:=s2.trans s7
  have hH7:=hH1.same s17
  have nl7:l7≠a:=(hH1.same s2).ne hl7
  refine⟨_,rfl,few rfl,λpe hpe=>?_⟩
  have se:=Same.new (o:= .lst []) hpe
  refine⟨_,_,zjE (se _ _ e7) (λx hx=>zaj (T.names x (hx7 x hx).1)),zhe zb,Nat.le_trans (Nat.min_le_right _ _) (by decide),_,rfl,?_⟩
  have s18:=s17.trans se
  have hH8:=hH7.same se
  have e8:=se _ _ e7
  generalize (upd H7 pe (HO.lst []))=H8 at *
  cases ys with
  |nil=>
   refine zbA (by unfold zu;rfl) ?_
   exact q .non none H8 rfl (hH8.mono (by omega)) (k1.trans (Keep.of s18))
  |cons y0 yr=>
   refine zbM (by unfold zu;rw[List.map_cons,PyData.eqv];rfl) ?_
   refine⟨_,rfl,_,rfl,_,rfl,a,_,hH8,by omega, .inl ⟨l7,_,rfl,nl7,SqL.of e8,by rw[List.length_map];simp,by rw[List.length_map];omega,λv9 H9 hv9 hH9 k9=>⟨few rfl,λp9 hp9=>?_⟩⟩⟩
   obtain⟨y,hy,rfl⟩:=List.mem_map.mp hv9
   obtain⟨y1,y2⟩:=hx7 y hy
   have m89:Mono H8 H9:= .keep k9 hH8 hH9
   have S9:=Same.new (o:= .tup [V.str y]) hp9
   refine zb7 (xs:=w.map V.str) (ys:=[V.str y]) (S9 _ _ (m89.tup _ _ (s18 _ _ hw))) zb (by rw[List.length_map];show _+1<=_;omega) λpX HX hpX sX=>?_
   have hpX:HX pX=some (.tup ((w ++ [y]).map V.str)):=by rw[List.map_append];exact hpX
   refine⟨pX,w ++ [y],_,rfl,hpX,List.nodup_append.mpr ⟨wnd,by simp,λc hc d hd z=>?_⟩,λc hc=>?_,⟨ws ++ [y],by rw[ew];rfl⟩,by rw[List.length_append];rfl,((hH9.same S9).same sX).mono (by rw[List.length_append];push_cast;show _<=n+(_+1) -1;omega),((k1.trans (Keep.of s18)).trans k9).trans (Keep.of (S9.trans sX))⟩
   ·rw[List.mem_singleton.mp hd] at z;rw[z] at hc;exact y2 hc
   ·rcases List.mem_append.mp hc with hc|hc
    ·exact wh c hc
    ·rw[List.mem_singleton.mp hc];exact y1
end
section
variable{P:Program}{w:World}{K:PySem.W.Frag}{mg:Str->Option Value}{base:Heap}
noncomputable def zge:Sp:=λvs H Q _=>∃(a:Addr) (n:Int) (v:V) (g:Str) (hs:List Str) (ps:List (Str×Str)) (lks hds:List D),vs=[.ref a,v]/\Hand H a n/\n<2^37/\Rep H v (zar g hs ps lks hds)/\TownOk g hs ps lks hds/\(∀d∈hds,∃ds,d= .tup ds/\ds.length<=12)/\∀(pm:Addr) (ms:List Str) (H':Hp),H' pm=some (.tup (ms.map V.str))->(∀y∈ms,zi y=true)->ms.length<=7->Hand H' a (n+8)->Keep a H H'->Q (.ref pm) H'
theorem zit(Y:Ev K mg):FnOk P w K mg base CX0 3 Y.a__law_some_marks Y.d__law_some_marks zag zge:=by
 have G__law_take:FnOk P w K mg base CX0 1 Y.a__law_take Y.d__law_take zE zb6:=zbE Y
 have G__law_pick:FnOk P w K mg base CX0 2 Y.a__law_pick Y.d__law_pick zF (zbs K):=zbD Y
 refine Y._law_some_marks.fn.okQ c__law_some_marks (λvs H Q E h=>?_) (λcdv A outer s H vs Q E hr h=>?_)
 ·obtain ⟨a,n,v,g,hs,ps,lks,hds,rfl,_⟩:=h;rfl
 ·obtain ⟨a,n,v,g,hs,ps,lks,hds,rfl,hH,hn,hv,T,hf,q⟩:=h
  obtain⟨p,pr,pt,pl,pa,vt,vl,va,rfl,hp,hpr,hpt,rt,hpl,rl,hpa,ra⟩:=zeM hv
  have T10:=T.ten
  have lva:=ra.1
  have lh:=T.lh
  have npa:∀{b o},H b=some (.tup o)->b≠a:=λ{b o} e z=>by obtain⟨_,_,_,e',_⟩:=hH;rw[z,e'] at e;cases e
  refine⟨_,(zf (zw 2 c__law_some_marks.nd (zbL (za za3 (za za3 (za za3 zd)))))
   (zf (zbw PassesOwn.never rfl (zc3 (zM ix_tup (qv 1) zg)) (zr 3 c__law_some_marks.nd) (zk (zcm (zfr PySem.F.plainAttrs_list PySem.F.slot_list_extend PySem.F.type_list_extend zkp (qv 2) (za (zcI (src:=[none]) o__law_some_marks_1 rfl rfl (zc3 (qv 3)) (λ_ _ _ _ _=>(zr 0 o__law_some_marks_1.nd)) (λ_ _ _ _ _=>(zgg (zB zhS (zM (zcg (K:=K) rfl) (zM (zcg (K:=K) rfl) (qv 0) zg) zg) za3))) (λ_ _ _ _ _=>(zM (zcg (K:=K) rfl) (zM (zcg (K:=K) rfl) (qv 0) zg) zg))) zd)))))
   (zf (zw 4 c__law_some_marks.nd zd2)
   (zf (zbw PassesOwn.never rfl (zc8 Y.range (za (zM ix_list (zd7 [V.int 0,V.int 0,V.int 1,V.int 2,V.int 7] (by decide +kernel)) (zj G__law_take (hr.mono (by decide)) Y._law_take.mg Y._law_take.kp Y._law_take.b .nil zo (za (qv 0) (za zg zd)))) zd)) (zr 5 c__law_some_marks.nd) (zk (zc0 (hu1 hr) (qv 4) (zj G__law_pick (hr.mono (by decide)) Y._law_pick.mg Y._law_pick.kp Y._law_pick.b .nil zo (za (qv 0) (za (qv 2) zd))) zgS)))
   (zk (zx (z5 zO Y.tuple zbq (za (zH (zhf rfl) Y.sorted zcs (za (qv 4) zd)) zd)))))))),?_⟩
  refine⟨few rfl,λls hls=>?_⟩
  have S1:=Same.new (o:= .lst [V.str "aa",V.str "q",V.str "zz"]) hls
  have nls:ls≠a:=hH.ne hls
  refine⟨_,rfl,p,_,4,_,rfl,rfl, .inl (.inl (S1 _ _ hp)),zI (j:=4) rfl,pa,rfl,⟨_, .inl (.inl (S1 _ _ hpa))⟩,?_⟩
  have n3:∀y∈(["aa","q","zz"]:List Str),zi y=true:=λy hy=>by
   simp only[List.mem_cons,List.not_mem_nil,or_false] at hy
   rcases hy with rfl|rfl|rfl<;>decide +kernel
  refine zaK (zb5 (K:=K) (xs:=va)) (λi σ' H'=>(∃o3 o4 o5,σ'=[some (.ref a),some (.ref p),some (.ref ls),o3,o4,o5])/\(∃xs:List Str,H' ls=some (.lst (xs.map V.str))/\(∀y∈xs,zi y=true)/\1<=xs.length/\xs.length<=3+12*i)/\Same H H') ?_ ?_ ?_ ?_
  ·exact ⟨⟨_,_,_,rfl⟩,⟨(["aa","q","zz"]:List Str),zb,n3,by decide,by decide⟩,S1⟩
  ·exact λi σ' H' z=> .inl (.inl (z.2.2 _ _ hpa))
  ·rintro i y σ' H1 hi hy ⟨⟨o3,o4,o5,rfl⟩,⟨xs,hx1,xn,x1,xl⟩,s1⟩
   obtain⟨d,hd,rd⟩:=ra.get hy
   have hdm:=List.mem_of_getElem? hd
   obtain⟨rs,rfl,hk⟩:=zfi (T.hands d hdm)
   obtain⟨ds,e3,h12⟩:=hf _ hdm
   cases e3
   obtain⟨pq,us,rfl,hpq,rr,_⟩:=rd.ofT
   have lu:=rr.1
   have hpq1:=s1 _ _ hpq
   refine⟨_,rfl, .inl ⟨rfl,_,SqL.of hx1⟩,_,rfl,pq,rfl,⟨_, .inl (.inl hpq1)⟩,?_⟩
   refine zbv (zb5 (K:=K) (xs:=us)) (λl' i ys σ' H'=>(∃o0,σ'=[o0])/\(∃zs:List Str,ys=zs.map V.str/\(∀y∈zs,zi y=true)/\zs.length<=i)/\Same H1 H') ?_ (λl' i ys σ' H' hl' z=> .inl (.inl (z.2.2 _ _ hpq1))) ?_ ?_
   ·exact λl' hl'=>⟨⟨_,rfl⟩,⟨[],rfl,(λ_ z=>nomatch z),Nat.le_refl _⟩,Same.new hl'⟩
   ·rintro l' k y0 ys σ' H2 hl' hk' hy' ⟨⟨o0,rfl⟩,⟨zs,rfl,zn,zl⟩,s2⟩ hl2
    obtain⟨r,er,rr0⟩:=rr.get hy'
    obtain⟨cs,x,rfl,_,hx⟩:=hk.2 r (List.mem_of_getElem? er)
    obtain⟨pb,xc,xx,rfl,hpb,rc,rx⟩:=rr0.of2
    have hpb2:=s2 _ _ (s1 _ _ hpb)
    rcases hx with rfl|⟨w,m,rfl,hw,hm⟩
    ·obtain ⟨px,ux,rfl,hpx,rux,_⟩:=rx.ofT
     obtain⟨u0,rfl,ru0⟩:∃u0,ux=[u0]/\Rep H u0 (.str "keep"):=by
      match ux,rux.1,rux with
      |[u0],_,r=>exact ⟨u0,rfl,r.2 0 _ _ rfl rfl⟩
     cases ru0 with|str _ _=>
     refine⟨_,rfl,pb,_,1,_,rfl,rfl, .inl (.inl hpb2),at1,px,_,0,_,rfl,rfl, .inl (.inl (s2 _ _ (s1 _ _ hpx))),at0,rfl,_,rfl,zbM (by decide +kernel) ⟨hl2,⟨_,rfl⟩,⟨zs,rfl,zn,by omega⟩,s2⟩⟩
    ·obtain ⟨px,u0,u1,rfl,hpx,ru0,ru1⟩:=rx.of2
     cases ru0 with|str _ _=>
     cases ru1 with|str _ _=>
     have hpx2:=s2 _ _ (s1 _ _ hpx)
     refine⟨_,rfl,pb,_,1,_,rfl,rfl, .inl (.inl hpb2),at1,px,_,0,_,rfl,rfl, .inl (.inl hpx2),at0,rfl,_,rfl,zbA (by rcases hw with rfl|rfl<;>decide +kernel) ⟨_,rfl,pb,_,1,_,rfl,rfl, .inl (.inl hpb2),at1,px,_,1,_,rfl,rfl, .inl (.inl hpx2),at1,hl2,zm (by rw[List.length_map];omega),⟨_,rfl⟩,⟨zs ++ [m],by rw[List.map_append];rfl,λy hy=>?_,by rw[List.length_append];show _+1<=_;omega⟩,?_⟩⟩
     ·rcases List.mem_append.mp hy with hy|hy
      ·exact zn y hy
      ·rw[List.mem_singleton.mp hy];exact hm
     ·exact λc o e=>by rw[ze (zh e hl')];exact s2 _ _ e
   ·rintro l' ys σ' H2 hl' ⟨⟨o0,rfl⟩,⟨zs,rfl,zn,zl⟩,s2⟩ hl2
    refine⟨ls,l',_,_,rfl,rfl,s2 _ _ hx1,hl2,Nat.le_of_lt (zm (by rw[List.length_map,List.length_map];omega)),⟨_,_,_,rfl⟩,⟨xs ++zs,by rw[List.map_append];exact zb,λy hy=>(List.mem_append.mp hy).elim (xn y) (zn y),by rw[List.length_append];omega,by rw[List.length_append];omega⟩,λc o e=>?_⟩
    rw[ze (zh e hls)];exact s2 _ _ (s1 _ _ e)
  ·rintro σ' H1 ⟨⟨o3,o4,o5,rfl⟩,⟨xs,hx1,xn,x1,xl⟩,s1⟩
   refine λfd hfd=>?_
   have S2:=Same.new (o:= .dK []) hfd
   have hH2:=(hH.same s1).same S2
   have nfd:fd≠a:=(hH.same s1).ne hfd
   have nfl:ls≠fd:=zh hx1 hfd
   have e2:(upd H1 fd (.dK [])) fd=some (.dK []):=zb
   have hx2:=S2 _ _ hx1
   have s02:=s1.trans S2
   show zj4 _ _ _ _ (upd H1 fd (.dK []))
   generalize (upd H1 fd (HO.dK []))=H2 at *
   refine⟨by decide,λpk hpk=>⟨_,rfl,a,5,_,rfl,hH2.new hpk,by omega,by decide,by decide,λu4 H3 u40 u44 hH3 k3=>?_⟩⟩
   have hpk3:=k3 _ _ (hH2.ne hpk) zb
   obtain⟨v4,ev4,hv4⟩:=zdc (xs:=[V.int 0,V.int 0,V.int 1,V.int 2,V.int 7]) u40 u44
   obtain⟨m,rfl,m7⟩:∃m:Nat,v4= .int (m:Int)/\m<=7:=by
    simp only[List.mem_cons,List.not_mem_nil,or_false] at hv4
    rcases hv4 with rfl|rfl|rfl|rfl|rfl
    ·exact ⟨0,rfl,by decide⟩
    ·exact ⟨0,rfl,by decide⟩
    ·exact ⟨1,rfl,by decide⟩
    ·exact ⟨2,rfl,by decide⟩
    ·exact ⟨7,rfl,by decide⟩
   have k23:Keep a H2 H3:=(Keep.new hpk).trans k3
   refine⟨pk,_,_,_,rfl,rfl,SqL.of hpk3,ev4,?_⟩
   refine⟨_,rfl,by omega,by omega,?_⟩
   have em:((m:Int)).toNat=m:=by omega
   rw[em]
   have hfd0:H fd=none:=zbp s1 hfd
   refine zaK zcl (λi σ' H'=>(∃o3 o5,σ'=[some (.ref a),some (.ref p),some (.ref ls),o3,some (.ref fd),o5])/\(∃(kvs:List (Key×V)) (ss:List Str),H' fd=some (.dK kvs)/\kvs.map (·.1)=ss.map Sum.inr/\(∀y∈ss,zi y=true)/\ss.length<=i)/\H' ls=some (.lst (xs.map V.str))/\Hand H' a (n+1+i)/\Keep a H H') ⟨⟨_,_,rfl⟩,⟨[],[],k23 _ _ nfd e2,rfl,(λ_ z=>nomatch z),Nat.le_refl _⟩,k23 _ _ nls hx2,hH3.mono (by omega),(Keep.of s02).trans k23⟩ (λ_ _ _ _=>trivial) ?_ ?_
   ·rintro i y σ' H4 hi rfl ⟨⟨o3,o5,rfl⟩,⟨kvs,ss,hk4,ek,sn,sl⟩,hx4,hH4,k4⟩
    have lk:kvs.length=ss.length:=by have:=congrArg List.length ek;rwa[List.length_map,List.length_map] at this
    refine⟨_,rfl,_,rfl,_,rfl,a,_,hH4,by omega, .inl ⟨ls,_,rfl,nls,SqL.of hx4,by rw[List.length_map];omega,by rw[List.length_map];omega,λv5 H5 hv5 hH5 k5=>?_⟩⟩
    obtain⟨y,hy,rfl⟩:=List.mem_map.mp hv5
    have hk5:=k5 _ _ nfd hk4
    have hx5:=k5 _ _ nls hx4
    refine⟨fd,_,rfl, .inl ⟨kvs,Sum.inr y,hk5,rfl,zm (by omega),rfl⟩,⟨_,_,rfl⟩,?_,by rw[ze nfl];exact hx5,(hH5.updNe nfd).mono (by push_cast;omega),λc o nc e=>by rw[ze (zh e hfd0)];exact k5 c o nc (k4 c o nc e)⟩
    by_cases c:(Sum.inr y:Key)∈kvs.map (·.1)
    ·exact ⟨_,ss,zb,by rw[RW.putK_keys.1 c];exact ek,sn,by omega⟩
    ·exact ⟨_,ss ++ [y],zb,by rw[RW.putK_keys.2 c,ek,List.map_append];rfl,λz hz=>(List.mem_append.mp hz).elim (sn z) λe=>by rw[List.mem_singleton.mp e];exact xn y hy,by rw[List.length_append];show _+1<=_;omega⟩
   ·rintro σ' H4 ⟨⟨o3,o5,rfl⟩,⟨kvs,ss,hk4,ek,sn,sl⟩,hx4,hH4,k4⟩
    refine⟨_,rfl,fd,kvs,ss,rfl,hk4,ek,by omega,λss' l hperm hrise hl=>⟨l,_,rfl, .inl ⟨SqL.of zb,λpm hpm=>?_⟩⟩⟩
    have S5:=Same.new (o:= .lst (ss'.map V.str)) hl
    have S6:=Same.new (o:= .tup (ss'.map V.str)) hpm
    exact q pm ss' _ zb (λy hy=>sn y (hperm.mem_iff.mp hy)) (by rw[hperm.length_eq];omega) (((hH4.same S5).same S6).mono (by omega)) (k4.trans (Keep.of (S5.trans S6)))
noncomputable def zfx:Sp:=λvs H Q _=>∃(a d:Addr) (n:Int) (v:V) (nm:Str) (kvs:List (Key×V)) (g:Str) (hs:List Str) (ps:List (Str×Str)) (lks hds:List D),vs=[.ref a,v, .str nm, .ref d]/\Hand H a n/\n<2^36/\d≠a/\H d=some (.dK kvs)/\kvs.length<=900/\(∀x u,z3 kvs (Sum.inr x)=some u->∃i,u= .int i)/\Rep H v (zar g hs ps lks hds)/\TownOk g hs ps lks hds/\(∀d∈hds,∃ds,d= .tup ds/\ds.length<=12)/\nm∈hs/\due hs ps nm≠ []/\
 ∀(lv:V) (one:Str) (r:Hr) (kvs':List (Key×V)) (H':Hp),LtO H' lv one nm r->one∈hs->hrR one r->0<r.1->H' d=some (.dK kvs')->kvs'.length<=kvs.length+1->(∀x u,z3 kvs' (Sum.inr x)=some u->∃i,u= .int i)->Hand H' a (n+40)->(∀c o,c≠a->c≠d->H c=some o->H' c=some o)->Q lv H'
theorem zhR(Y:Ev K mg):FnOk P w K mg base CX0 4 Y.a__law_letter Y.d__law_letter zaY zfx:=by
 have G__law_take:FnOk P w K mg base CX0 1 Y.a__law_take Y.d__law_take zE zb6:=zbE Y
 have G__law_pick:FnOk P w K mg base CX0 2 Y.a__law_pick Y.d__law_pick zF (zbs K):=zbD Y
 have G_tied:FnOk P w K mg base CX0 1 Y.a_tied Y.d_tied zcD zeg:=zdE Y
 have G__law_real_way:FnOk P w K mg base CX0 3 Y.a__law_real_way Y.d__law_real_way zax zh4:=zj2 Y
 have G__law_some_marks:FnOk P w K mg base CX0 3 Y.a__law_some_marks Y.d__law_some_marks zag zge:=zit Y
 refine Y._law_letter.fn.okQ c__law_letter (λvs H Q E h=>?_) (λcdv A outer s H vs Q E hr h=>?_)
 ·obtain ⟨a,d,n,v,nm,kvs,g,hs,ps,lks,hds,rfl,_⟩:=h;rfl
 ·obtain ⟨a,d,n,v,nm,kvs,g,hs,ps,lks,hds,rfl,hH,hn,nda,hd,kl,ki,hv,T,hf,hnm,hdue,q⟩:=h
  refine⟨_,(zf (zw 4 c__law_letter.nd (zj G__law_pick (hr.mono (by decide)) Y._law_pick.mg Y._law_pick.kp Y._law_pick.b .nil zo (za (qv 0) (za (zj G_tied (hr.mono (by decide)) Y.tied.mg Y.tied.kp Y.tied.b .nil zo (za (qv 1) (za (qv 2) zd))) zd))))
   (zf (zw 5 c__law_letter.nd (zeQ (hu1 hr) (qv 3) (qv 4) zg))
   (zf (zw 6 c__law_letter.nd (zH (zf5 rfl) Y.max zgH (za zg (za (zz z7 (qv 5) (zM ix_list (zbL (za zg (za zg (za zg (za zg (za zg (za (ziI zdy zg) (za zg (za (zz zec zg zg) zd))))))))) (zj G__law_take (hr.mono (by decide)) Y._law_take.mg Y._law_take.kp Y._law_take.b .nil zo (za (qv 0) (za zg zd))))) zd))))
   (zf (zc0 (hu1 hr) (qv 3) (qv 4) (zH (zf5 rfl) Y.max zgH (za (qv 5) (za (qv 6) zd))))
   (zf (zw 7 c__law_letter.nd (zj G__law_real_way (hr.mono (by decide)) Y._law_real_way.mg Y._law_real_way.kp Y._law_real_way.b .nil zo (za (qv 0) (za (qv 1) (za (qv 4) zd)))))
   (zf (zaQ (t_w (znf (zB zgN (qv 7) zch) (zji (zB zaL (zj G__law_take (hr.mono (by decide)) Y._law_take.mg Y._law_take.kp Y._law_take.b .nil zo (za (qv 0) (za zg zd))) zg)))) (zk (zx (zD (za (qv 4) (za (qv 2) (za (qv 6) (za zch (za (zD zd) zd)))))))) z8)
   (zk (zx (zD (za (qv 4) (za (qv 2) (za (qv 6) (za (qv 7) (za (zj G__law_some_marks (hr.mono (by decide)) Y._law_some_marks.mg Y._law_some_marks.kp Y._law_some_marks.b .nil zo (za (qv 0) (za (qv 1) zd))) zd)))))))))))))),?_⟩
  refine⟨_,rfl,_,rfl,_,rfl,v,nm,g,hs,ps,lks,hds,rfl,hv,T,λlt ts H1 hlt ht1 tp tsr s1=>?_⟩
  have ets:=zfy T tp tsr
  have tin:∀o∈ts,o∈hs:=λo ho=>zdd T (tp.mem_iff.mp ho)
  have tl:ts.length<=10:=by rw[tp.length_eq];exact zcY T nm
  have t0:0<ts.length:=by rw[ets];exact List.length_pos_iff.mpr hdue
  have hH1:=hH.same s1
  have nlt:lt≠a:=hH.ne hlt
  refine⟨a,_,hH1,by omega, .inl ⟨lt,_,rfl,nlt,SqL.of ht1,by rw[List.length_map];omega,by rw[List.length_map];omega,λv2 H2 hv2 hH2 k2=>?_⟩⟩
  obtain⟨one,hone,rfl⟩:=List.mem_map.mp hv2
  have ohs:=tin one hone
  have hd2:=k2 _ _ nda (s1 _ _ hd)
  have k02:Keep a H H2:=(Keep.of s1).trans k2
  have hv2':=hv.mono (.keep k02 hH hH2)
  have last:∃i,(z3 kvs (Sum.inr one)).getD (.int 0)= .int i:=by
   cases e:z3 kvs (Sum.inr one)with
   |none=>exact ⟨0,rfl⟩
   |some u=>obtain ⟨i,rfl⟩:=ki one u e;exact⟨i,rfl⟩
  obtain⟨la,ela⟩:=last
  refine⟨_,rfl,d,rfl, .inl ⟨_, .inl hd2⟩,_,rfl,_,DGet.k (k:=Sum.inr one) hd2,?_⟩
  rw[ela]
  have cp:zoo 10 9:=⟨by decide,by decide,by decide⟩
  refine⟨_,rfl,1,rfl,_,_,rfl,rfl,cp,few rfl,λpl hpl=>⟨_,rfl,a,8,_,rfl,hH2.new hpl,by omega,by decide,by decide,λu H3 u0 u8 hH3 k3=>?_⟩⟩
  have hpl3:=k3 _ _ (hH2.ne hpl) zb
  obtain⟨v3,ev3,hv3⟩:=zdc (xs:=[V.int 1,V.int 1,V.int 1,V.int 2,V.int 0,V.int (-1),V.int 7,V.int (10^(9:Int).toNat)]) u0 u8
  obtain⟨c,rfl⟩:∃c:Int,v3= .int c:=by
   simp only[List.mem_cons,List.not_mem_nil,or_false] at hv3
   rcases hv3 with rfl|rfl|rfl|rfl|rfl|rfl|rfl|rfl<;>exact ⟨_,rfl⟩
  have k23:Keep a H2 H3:=(Keep.new hpl).trans k3
  have hd3:=k23 _ _ nda hd2
  refine⟨pl,_,_,_,rfl,rfl,SqL.of hpl3,ev3,_,_,rfl,rfl,_,_,rfl,?_⟩
  obtain⟨nr,enr,hnr⟩:∃nr:Int,(if la+c>1 then la+c else 1)=nr/\0<nr:=⟨_,rfl,by split<;>omega⟩
  rw[enr]
  refine⟨_,rfl,_,rfl,_,_,rfl,_,rfl,_,rfl,d,_,rfl, .inl ⟨kvs,Sum.inr one,hd3,rfl,zm (by omega),rfl⟩,?_⟩
  have m34:∀c xs,H3 c=some (.tup xs)->upd H3 d (.dK (z6 kvs (Sum.inr one) (.int (if nr>la then nr else la)))) c=some (.tup xs):=λc xs e=>by rw[ze (zQ e hd3 (λz=>nomatch z))];exact e
  have hH4:=hH3.updNe (o:= .dK (z6 kvs (Sum.inr one) (.int (if nr>la then nr else la)))) nda
  have k34:∀c o,c≠d->H3 c=some o->upd H3 d (.dK (z6 kvs (Sum.inr one) (.int (if nr>la then nr else la)))) c=some o:=λc o n e=>by rw[ze n];exact e
  have hd4:upd H3 d (.dK (z6 kvs (Sum.inr one) (.int (if nr>la then nr else la)))) d=some (.dK (z6 kvs (Sum.inr one) (.int (if nr>la then nr else la)))):=zb
  have ki':∀x u,z3 (z6 kvs (Sum.inr one) (.int (if nr>la then nr else la))) (Sum.inr x)=some u->∃i,u= .int i:=λx u e=>by
   rw[zid] at e
   by_cases c:(Sum.inr x:Key)=Sum.inr one
   ·rw[if_pos c] at e;cases e;exact⟨_,rfl⟩
   ·rw[if_neg c] at e;exact ki x u e
  have kl':=zbG kvs (Sum.inr one) (.int (if nr>la then nr else la))
  show zj4 _ _ _ _ (upd H3 d (.dK (z6 kvs (Sum.inr one) (.int (if nr>la then nr else la)))))
  generalize (z6 kvs (Sum.inr one) (V.int (if nr>la then nr else la)))=kvs' at *
  generalize (upd H3 d (HO.dK kvs'))=H4 at *
  have npa:∀{b o},H b=some (.tup o)->b≠a:=λ{b o} e z=>by obtain⟨_,_,_,e',_⟩:=hH;rw[z,e'] at e;cases e
  have m04:∀c xs,H c=some (.tup xs)->H4 c=some (.tup xs):=λc xs e=>m34 _ _ (k23 _ _ (npa e) (k02 _ _ (npa e) e))
  have k04:∀c o,c≠a->c≠d->H c=some o->H4 c=some o:=λc o n1 n2 e=>k34 c o n2 (k23 c o n1 (k02 c o n1 e))
  refine⟨_,rfl,_,rfl,_,rfl,a,_,v,one,g,hs,ps,lks,hds,rfl,hH4,by omega,zau hv T m04,T,ohs,λv5 ow H5 ow5 hH5 k5=>?_⟩
  have hd5:=k5 _ _ nda hd4
  have k05:∀c o,c≠a->c≠d->H c=some o->H5 c=some o:=λc o n1 n2 e=>k5 c o n1 (k04 c o n1 n2 e)
  cases ow with
  |none=>
   cases(show v5= .non from ow5)
   refine⟨_,rfl,rfl,_,rfl,zbA rfl (zbA rfl ⟨_,rfl,_,rfl,_,rfl,few rfl,λe6 he6=>⟨few rfl,λp6 hp6=>?_⟩⟩)⟩
   have S:=(Same.new (o:= .tup ([]:List V)) he6).trans (Same.new (o:= .tup [V.str one,V.str nm,V.int nr,V.non,V.ref e6]) hp6)
   exact q (.ref p6) one (nr,none) kvs' _ ⟨p6, .non, .ref e6,rfl,zb,rfl,e6,rfl,Same.new hp6 _ _ zb⟩ ohs trivial hnr (S _ _ hd5) kl' ki' ((hH5.same S).mono (by omega)) λc o n1 n2 e=>S _ _ (k05 c o n1 n2 e)
  |some w=>
   obtain⟨pw,rfl,hpw,⟨ws,ew⟩,wl,wn⟩:=ow5
   refine⟨_,rfl,rfl,_,rfl,zbM rfl ⟨_,rfl,a,5,_,rfl,hH5,by omega,by decide,by decide,λt H6 t0 t5 hH6 k6=>⟨rfl,_,rfl,zcn (λe=>?_) (λe=>?_)⟩⟩⟩
   ·refine ⟨_,rfl,_,rfl,_,rfl,few rfl,λe6 he6=>⟨few rfl,λp6 hp6=>?_⟩⟩
    have S:=(Same.new (o:= .tup ([]:List V)) he6).trans (Same.new (o:= .tup [V.str one,V.str nm,V.int nr,V.non,V.ref e6]) hp6)
    exact q (.ref p6) one (nr,none) kvs' _ ⟨p6, .non, .ref e6,rfl,zb,rfl,e6,rfl,Same.new hp6 _ _ zb⟩ ohs trivial hnr (S _ _ (k6 _ _ nda hd5)) kl' ki' ((hH6.same S).mono (by omega)) λc o n1 n2 e=>S _ _ (k6 c o n1 (k05 c o n1 n2 e))
   ·have npw:∀{b o},H5 b=some (.tup o)->b≠a:=λ{b o} e z=>by obtain⟨_,_,_,e',_⟩:=hH5;rw[z,e'] at e;cases e
    have m06:∀c xs,H c=some (.tup xs)->H6 c=some (.tup xs):=λc xs e=>by
     have e4:=m04 _ _ e
     exact k6 _ _ (npa e) (k5 _ _ (npa e) e4)
    refine⟨_,rfl,_,rfl,_,rfl,_,rfl,_,rfl,_,rfl,a,_,v,g,hs,ps,lks,hds,rfl,hH6,by omega,zau hv T m06,T,hf,λpm ms H7 hpm mn ml hH7 k7=>⟨few rfl,λp8 hp8=>?_⟩⟩
    have S:=Same.new (o:= .tup [V.str one,V.str nm,V.int nr,V.ref pw,V.ref pm]) hp8
    have hpw7:=k7 _ _ (npw hpw) (k6 _ _ (npw hpw) hpw)
    exact q (.ref p8) one (nr,some (w,ms)) kvs' _ ⟨p8, .ref pw, .ref pm,rfl,zb,pw,pm,rfl,rfl,S _ _ hpw7,S _ _ hpm⟩ ohs ⟨⟨ws,ew⟩,wl,wn,mn,by omega⟩ hnr (S _ _ (k7 _ _ nda (k6 _ _ nda hd5))) kl' ki' ((hH7.same S).mono (by omega)) λc o n1 n2 e=>S _ _ (k7 c o n1 (k6 c o n1 (k05 c o n1 n2 e)))
end
section
variable{P:Program}{w:World}{K:PySem.W.Frag}{mg:Str->Option Value}{base:Heap}
theorem LtsO.get{H:Hp}{nm:Str}{us:List V}{L:List Lt}(h:LtsO H nm us L):∀{i:Nat} {v:V},us[i]?=some v->∃l,L[i]?=some l/\LtO H v nm l.1 l.2:=by
 induction h with
 |nil=>intro i v e;cases e
 |cons h t ih=>
  intro i v e
  cases i with
  |zero=>cases e;exact⟨_,rfl,h⟩
  |succ i=>exact ih e
noncomputable def zhV:Sp:=λvs H Q _=>∃(l:Addr) (us:List V) (nm:Str) (L:List Lt),vs=[.ref l]/\H l=some (.lst us)/\LtsO H nm us L/\L.length<=900/\∀(d:Addr) (kvs:List (Key×V)) (H':Hp),H d=none->H' d=some (.dK kvs)->(∀o,(z3 kvs (Sum.inr o)=none/\zb1 L o=none)\/∃q,z3 kvs (Sum.inr o)=some (.ref q)/\GoR H' q (zb1 L o))->Same H H'->Q (.ref d) H'
theorem zj7(Y:Ev K mg):FnOk P w K mg base CX0 1 Y.a__law_last_told Y.d__law_last_told zal zhV:=by
 refine Y._law_last_told.fn.okQ c__law_last_told (λvs H Q E h=>?_) (λcdv A outer s H vs Q E hr h=>?_)
 ·obtain ⟨l,us,nm,L,rfl,_⟩:=h;rfl
 ·obtain ⟨l,us,nm,L,rfl,hl,R,l9,q⟩:=h
  have ul:=R.len
  refine⟨_,(zf (zw 1 c__law_last_told.nd zd2)
   (zf (zbw PassesOwn.never rfl (zcA (qv 0)) (zcO 5 rfl (zv (zr 2 c__law_last_told.nd) (zv (zr 3 c__law_last_told.nd) (zv (zr 4 c__law_last_told.nd) (zv (zr 5 c__law_last_told.nd) (zv (zr 6 c__law_last_told.nd) zbu)))))) (zk (zc0 (hu1 hr) (qv 1) (qv 3) (zD (za (qv 5) (za (qv 6) zd))))))
   (zk (zx (qv 1))))),?_⟩
  refine λd hd=>?_
  have S1:=Same.new (o:= .dK []) hd
  have nld:l≠d:=zh hl hd
  refine⟨_,rfl,l,rfl,⟨_,SqL.of (S1 _ _ hl)⟩,?_⟩
  refine zaK (zbX (K:=K) (xs:=us)) (λi σ' H'=>(∃o2 o3 o4 o5 o6,σ'=[some (.ref l),some (.ref d),o2,o3,o4,o5,o6])/\(∃kvs,H' d=some (.dK kvs)/\kvs.length<=i/\∀o,(z3 kvs (Sum.inr o)=none/\zb1 (L.take i) o=none)\/∃q,z3 kvs (Sum.inr o)=some (.ref q)/\GoR H' q (zb1 (L.take i) o))/\Same H H') ?_ ?_ ?_ ?_
  ·exact ⟨⟨_,_,_,_,_,rfl⟩,⟨[],zb,Nat.le_refl _,λo=> .inl ⟨rfl,rfl⟩⟩,S1⟩
  ·exact λi σ' H' z=>SqL.of (z.2.2 _ _ hl)
  ·rintro i y σ' H1 hi hy ⟨⟨o2,o3,o4,o5,o6,rfl⟩,⟨kvs,hk1,kl,P1⟩,s1⟩
   obtain⟨p,ep,t,x,yy,rfl,ht,wa⟩:=R.get hy
   have tk:L.take (i+1)=L.take i ++ [p]:=by rw[List.take_add_one,ep];rfl
   have hi':i<us.length:=hi
   refine⟨t,_,rfl, .inl (.inl (s1 _ _ ht)),rfl,_,_,rfl,_,_,rfl,_,_,rfl,_,_,rfl,_,_,rfl,rfl,?_⟩
   refine⟨_,rfl,_,rfl,few rfl,λp2 hp2=>?_⟩
   have S2:=Same.new (o:= .tup [x,yy]) hp2
   have e2:(upd H1 p2 (.tup [x,yy])) p2=some (.tup [x,yy]):=zb
   generalize (upd H1 p2 (HO.tup [x,yy]))=H2 at *
   have hk2:=S2 _ _ hk1
   refine⟨_,rfl,_,rfl,d,_,rfl, .inl ⟨kvs,Sum.inr p.1,hk2,rfl,zm (by omega),rfl⟩,⟨_,_,_,_,_,rfl⟩,⟨_,zb,?_,λo=>?_⟩,λc o e=>by rw[ze (zh e hd)];exact S2 _ _ (s1 _ _ e)⟩
   ·have:=zbG kvs (Sum.inr p.1) (.ref p2);omega
   have m23:∀c xs,H2 c=some (.tup xs)->upd H2 d (.dK (z6 kvs (Sum.inr p.1) (.ref p2))) c=some (.tup xs):=λc xs e=>by rw[ze (zQ e hk2 (λz=>nomatch z))];exact e
   rw[tk,zfw,zid]
   by_cases c:o=p.1
   ·subst c
    rw[if_pos rfl,if_pos rfl]
    exact .inr ⟨p2,rfl,x,yy,m23 _ _ e2,wa.mono λc xs e=>m23 _ _ (S2 _ _ (s1 _ _ e))⟩
   ·rw[if_neg (λz=>c (Sum.inr.inj z)),if_neg (λz=>c z.symm)]
    rcases P1 o with h|⟨q',h1,h2⟩
    ·exact .inl h
    ·exact .inr ⟨q',h1,h2.mono λc xs e=>m23 _ _ (S2 _ _ e)⟩
  ·rintro σ' H1 ⟨⟨o2,o3,o4,o5,o6,rfl⟩,⟨kvs,hk1,kl,P1⟩,s1⟩
   rw[ul,List.take_length] at P1
   exact⟨_,rfl,q d kvs H1 hd hk1 P1 s1⟩
theorem zoy{i:Int}{n:Nat}(h0:0<=i)(h1:i<n):seqIndex? i n=some i.toNat:=PySem.StrLaws.seqIndex_nonneg h0 h1
theorem zfu{α:Type}:∀{xs:List α} {k:Nat} {y:α},xs[k]?=some y->(y::xs.eraseIdx k).Perm xs
 |x::xs,0,y,e=>by cases e;exact .refl _
 |x::xs,k+1,y,e=>(List.Perm.swap x y _).trans ((zfu (xs:=xs) e).cons x)
noncomputable def zhD:Sp:=λvs H Q _=>∃(a l:Addr) (n:Int) (us:List V),vs=[.ref a, .ref l]/\Hand H a n/\n<2^37/\H l=some (.lst us)/\us.length<=60/\(∀u∈us,∀H',(∀c xs,H c=some (.tup xs)->H' c=some (.tup xs))->∃d,Tr H' u d)/\∀(l':Addr) (us':List V) (H':Hp),H l'=none->H' l'=some (.lst us')->us'.Perm us->Hand H' a (n+60)->Keep a H H'->Q (.ref l') H'
theorem zkq(Y:Ev K mg):FnOk P w K mg base CX0 2 Y.a__law_shuffled Y.d__law_shuffled zaz zhD:=by
 have G__law_take:FnOk P w K mg base CX0 1 Y.a__law_take Y.d__law_take zE zb6:=zbE Y
 refine Y._law_shuffled.fn.okQ c__law_shuffled (λvs H Q E h=>?_) (λcdv A outer s H vs Q E hr h=>?_)
 ·obtain ⟨a,l,n,us,rfl,_⟩:=h;rfl
 ·obtain ⟨a,l,n,us,rfl,hH,hn,hl,l60,tru,q⟩:=h
  have npa:∀{b o},H b=some (.tup o)->b≠a:=λ{b o} e z=>by obtain⟨_,_,_,e',_⟩:=hH;rw[z,e'] at e;cases e
  refine⟨_,(zf (zw 2 c__law_shuffled.nd (z5 zhi Y.list znd (za (qv 1) zd)))
   (zf (zw 3 c__law_shuffled.nd (zbL zd))
   (zf (zjc (zB (zlb (ziz hr)) (qv 2) (zbL zd)) (zk (zcm (zfr PySem.F.plainAttrs_list PySem.F.slot_list_append PySem.F.type_list_append zaS (qv 3) (za (zfr PySem.F.plainAttrs_list PySem.F.slot_list_pop PySem.F.type_list_pop zlZ (qv 2) (za (zj G__law_take (hr.mono (by decide)) Y._law_take.mg Y._law_take.kp Y._law_take.b .nil zo (za (qv 0) (za (zH zaH Y.len zco (za (qv 2) zd)) zd))) zd)) zd)))))
   (zk (zx (qv 3)))))),?_⟩
  refine⟨_,rfl,l,us,rfl, .inl (SqL.of hl),λl1 hl1=>?_⟩
  have S1:=Same.new (o:= .lst us) hl1
  refine⟨few rfl,λl2 hl2=>?_⟩
  have S2:=Same.new (o:= .lst ([]:List V)) hl2
  have n12:l1≠l2:=zh zb hl2
  have n1:l1≠a:=hH.ne hl1
  have n2:l2≠a:=(hH.same S1).ne hl2
  have hl20:H l2=none:=zbp S1 hl2
  refine⟨λm σ' H'=>∃xs ys,σ'=[some (.ref a),some (.ref l),some (.ref l1),some (.ref l2)]/\H' l1=some (.lst xs)/\H' l2=some (.lst ys)/\m=xs.length/\(ys ++xs).Perm us/\Hand H' a (n+ys.length)/\Keep a H H',⟨_,us,[],rfl,S2 _ _ zb,zb,rfl, .refl _,((hH.same S1).same S2).mono (by show n<=n+((0:Nat):Int);omega),Keep.of (S1.trans S2)⟩,?_⟩
  rintro m σ' H1 ⟨xs,ys,rfl,h1,h2,rfl,hp,hH1,k1⟩
  have len:=hp.length_eq
  rw[List.length_append] at len
  have m01:∀c zs,H c=some (.tup zs)->H1 c=some (.tup zs):=λc zs e=>k1 _ _ (npa e) e
  refine⟨_,rfl,few rfl,λpe hpe=>?_⟩
  have se:=Same.new (o:= .lst []) hpe
  have h1e:=se _ _ h1
  obtain⟨ds,dl,dt⟩:∃ds:List PyData,xs.length=ds.length/\∀(i:Nat) (v:V) (d:PyData),xs[i]?=some v->ds[i]?=some d->Tr (upd H1 pe (.lst [])) v d:=by
   have key:∀(zs:List V),(∀u∈zs,u∈us)->∃ds:List PyData,zs.length=ds.length/\∀(i:Nat) (v:V) (d:PyData),zs[i]?=some v->ds[i]?=some d->Tr (upd H1 pe (.lst [])) v d:=by
    intro zs
    induction zs with
    |nil=>exact λ_=>⟨[],rfl,λi v d e=>by cases e⟩
    |cons z zs ih=>
     intro h
     obtain⟨d,td⟩:=tru z (h z List.mem_cons_self) _ λc zs e=>se _ _ (m01 c zs e)
     obtain⟨ds,dl,dt⟩:=ih λu hu=>h u (List.mem_cons_of_mem _ hu)
     refine⟨d::ds,by rw[List.length_cons,List.length_cons,dl],λi v d' e1 e2=>?_⟩
     cases i with
     |zero=>cases e1;cases e2;exact td
     |succ i=>exact dt i v d' e1 e2
   exact key xs λu hu=>hp.mem_iff.mp (List.mem_append_right _ hu)
  refine⟨_,_,Tr.lst h1e dl dt,zhe zb,Nat.le_trans (Nat.min_le_right _ _) (by decide),_,rfl,?_⟩
  have hHe:=hH1.same se
  have h2e:=se _ _ h2
  have k1e:=k1.trans (Keep.of se)
  generalize (upd H1 pe (HO.lst []))=H2 at *
  cases xs with
  |nil=>
   cases ds with
   |cons _ _=>cases dl
   |nil=>
    rw[show(PyData.list []).eqv (.list [])=true from rfl]
    rw[List.append_nil] at hp
    exact⟨_,rfl,q l2 ys H2 hl20 h2e hp (hHe.mono (by omega)) k1e⟩
  |cons x0 xr=>
   cases ds with
   |nil=>cases dl
   |cons d0 dr=>
    rw[show(PyData.list (d0::dr)).eqv (.list [])=false by rw[PyData.eqv];rfl]
    refine⟨λσ' H'=>∃xs' ys',σ'=[some (.ref a),some (.ref l),some (.ref l1),some (.ref l2)]/\H' l1=some (.lst xs')/\H' l2=some (.lst ys')/\xs'.length<(x0::xr).length/\(ys' ++xs').Perm us/\Hand H' a (n+ys'.length)/\Keep a H H',λσ' H' ⟨xs',ys',e1,e2,e3,e4,e5,e6,e7⟩=>⟨_,e4,xs',ys',e1,e2,e3,rfl,e5,e6,e7⟩,?_⟩
    have x0l:0<(x0::xr).length:=Nat.zero_lt_succ _
    generalize x0::xr=xs at *
    refine⟨_,rfl, .inl ⟨rfl,_,SqL.of h2e⟩,_,rfl, .inl ⟨rfl,_,SqL.of h1e⟩,_,rfl,_,rfl, .inl ⟨l1,_,rfl, .inl (SqL.of h1e),a,_,_,rfl,hHe,by omega,by omega,by omega,λt H3 t0 t1 hH3 k3=>?_⟩⟩
    have h13:=k3 _ _ n1 h1e
    have h23:=k3 _ _ n2 h2e
    have hk:t.toNat<xs.length:=by omega
    have ek:xs[t.toNat]?=some xs[t.toNat]:=List.getElem?_eq_getElem hk
    refine⟨l1,xs,t,t.toNat,xs[t.toNat],rfl,rfl,h13,by omega,by omega,zoy t0 t1,ek,?_⟩
    have el:=List.length_eraseIdx_of_lt (i:=t.toNat) hk
    refine⟨l2,ys,_,rfl,rfl,by rw[ze (Ne.symm n12)];exact h23,zm (by omega),xs.eraseIdx t.toNat,ys ++ [xs[t.toNat]],rfl,by rw[ze n12];exact zb,zb,by omega,?_,?_,?_⟩
    ·rw[List.append_assoc]
     exact(List.Perm.append_left ys (zfu ek)).trans hp
    ·exact ((hH3.updNe n1).updNe n2).mono (by rw[List.length_append];push_cast;show _<=n+(_+1);omega)
    ·exact λc o nc e=>by rw[ze (zh e hl20),ze (zh e hl1)];exact k3 c o nc (k1e c o nc e)
inductive NwL(H:Hp)(nm:Str):List (Key×V)->Tb->Prop
 |nil:NwL H nm [] []
 |cons {x:Str} {v:V} {r:Hr} {kvs:List (Key×V)} {m:Tb} (h:LtO H v x nm r) (t:NwL H nm kvs m):NwL H nm ((Sum.inr x,v)::kvs) ((x,r)::m)
theorem NwL.mono{H H':Hp}{nm:Str}{kvs:List (Key×V)}{tm:Tb}(h:NwL H nm kvs tm)(m:∀c xs,H c=some (.tup xs)->H' c=some (.tup xs)):NwL H' nm kvs tm:=by
 induction h with
 |nil=>exact .nil
 |cons h t ih=>exact .cons (h.mono m) ih
theorem NwL.len{H:Hp}{nm:Str}{kvs:List (Key×V)}{m:Tb}(h:NwL H nm kvs m):kvs.length=m.length:=by
 induction h with
 |nil=>rfl
 |cons h t ih=>rw[List.length_cons,List.length_cons,ih]
theorem NwL.look{H:Hp}{nm:Str}{kvs:List (Key×V)}{m:Tb}(h:NwL H nm kvs m)(x:Str):(zt m x=none/\z3 kvs (Sum.inr x)=none)\/∃r v,zt m x=some r/\z3 kvs (Sum.inr x)=some v/\LtO H v x nm r:=by
 induction h with
 |nil=>exact .inl ⟨rfl,rfl⟩
 | @cons y v r kvs m h t ih=>
   by_cases e:y=x
   ·exact .inr ⟨r,v,zad e,zah (by rw[e]),by rw[←e];exact h⟩
   ·rw[zap (p:=(y,r)) e,zae (p:=(Sum.inr y,v)) (λz=>e (Sum.inr.inj z))];exact ih
theorem NwL.map{H:Hp}{nm:Str}{kvs:List (Key×V)}{m:Tb}(h:NwL H nm kvs m){x:Str}{v:V}{r:Hr}(hv:LtO H v x nm r):NwL H nm (kvs.map λkv=>if kv.1=Sum.inr x then(kv.1,v)else kv) (m.map λp=>if p.1=x then(p.1,r)else p):=by
 induction h with
 |nil=>exact .nil
 | @cons y v' r' kvs m h t ih=>
   rw[List.map_cons,List.map_cons]
   by_cases e:y=x
   ·rw[if_pos (show(Sum.inr y:Key)=Sum.inr x by rw[e]),if_pos (show y=x from e)];exact .cons (by rw[e];exact hv) ih
   ·rw[if_neg (show¬(Sum.inr y:Key)=Sum.inr x from λz=>e (Sum.inr.inj z)),if_neg (show¬y=x from e)];exact .cons h ih
theorem NwL.snoc{H:Hp}{nm:Str}{kvs:List (Key×V)}{m:Tb}(h:NwL H nm kvs m){x:Str}{v:V}{r:Hr}(hv:LtO H v x nm r):NwL H nm (kvs ++ [(Sum.inr x,v)]) (m ++ [(x,r)]):=by
 induction h with
 |nil=>exact .cons hv .nil
 |cons h t ih=>exact .cons h ih
theorem NwL.put{H:Hp}{nm:Str}{kvs:List (Key×V)}{m:Tb}(h:NwL H nm kvs m){x:Str}{v:V}{r:Hr}(hv:LtO H v x nm r):NwL H nm (z6 kvs (Sum.inr x) v) (zb3 m x r):=by
 unfold z6 zb3
 rw[zcz,zbZ]
 rcases h.look x with⟨e1,e2⟩|⟨r',v',e1,e2,_⟩
 ·rw[e1,e2,if_neg (by simp),if_neg (by simp)];exact h.snoc hv
 ·rw[e1,e2,if_pos (show(some v').isSome=true from rfl),if_pos (show(some r').isSome=true from rfl)];exact h.map hv
inductive LtsI(H:Hp)(nm:Str):List V->List Lt->Prop
 |nil:LtsI H nm [] []
 |cons {v:V} {l:Lt} {us:List V} {L:List Lt} (h:LtO H v l.1 nm l.2) (t:LtsI H nm us L):LtsI H nm (v::us) (l::L)
theorem LtsI.mono{H H':Hp}{nm:Str}{us:List V}{L:List Lt}(h:LtsI H nm us L)(m:∀c xs,H c=some (.tup xs)->H' c=some (.tup xs)):LtsI H' nm us L:=by
 induction h with
 |nil=>exact .nil
 |cons h t ih=>exact .cons (h.mono m) ih
theorem LtsI.append{H:Hp}{nm:Str}{us us':List V}{L L':List Lt}(h:LtsI H nm us L)(h':LtsI H nm us' L'):LtsI H nm (us ++us') (L ++L'):=by
 induction h with
 |nil=>exact h'
 |cons h t ih=>exact .cons h ih
theorem LtsI.len{H:Hp}{nm:Str}{us:List V}{L:List Lt}(h:LtsI H nm us L):us.length=L.length:=by
 induction h with
 |nil=>rfl
 |cons h t ih=>rw[List.length_cons,List.length_cons,ih]
theorem LtsI.get{H:Hp}{nm:Str}{us:List V}{L:List Lt}(h:LtsI H nm us L):∀{i:Nat} {v:V},us[i]?=some v->∃l,L[i]?=some l/\LtO H v l.1 nm l.2:=by
 induction h with
 |nil=>intro i v e;cases e
 |cons h t ih=>
  intro i v e
  cases i with
  |zero=>cases e;exact⟨_,rfl,h⟩
  |succ i=>exact ih e
theorem LtsI.perm{H:Hp}{nm:Str}{us us':List V}(p:us'.Perm us):∀{L:List Lt},LtsI H nm us L->∃L',LtsI H nm us' L'/\L'.Perm L:=by
 induction p with
 |nil=>intro L h;exact⟨L,h, .refl _⟩
 | @cons x l1 l2 p ih=>
   intro L h
   cases h with
   |cons h t=>
    obtain⟨L',h',p'⟩:=ih t
    exact⟨_, .cons h h',p'.cons _⟩
 |swap x y l=>
  intro L h
  cases h with
  |cons h1 t=>cases t with
   |cons h2 t=>exact ⟨_, .cons h2 (.cons h1 t), .swap _ _ _⟩
 |trans p1 p2 ih1 ih2=>
  intro L h
  obtain⟨L1,h1,q1⟩:=ih2 h
  obtain⟨L2,h2,q2⟩:=ih1 h1
  exact⟨L2,h2,q2.trans q1⟩
theorem NwL.vals{H:Hp}{nm:Str}{kvs:List (Key×V)}{m:Tb}(h:NwL H nm kvs m):∀(i:Nat),LtsI H nm ((kvs.map (·.2)).take i) (m.take i):=by
 induction h with
 |nil=>intro i;rw[List.map_nil,List.take_nil,List.take_nil];exact .nil
 |cons h t ih=>
  intro i
  cases i with
  |zero=>exact .nil
  |succ i=>rw[List.map_cons,List.take_succ_cons,List.take_succ_cons];exact .cons h (ih i)
end
section
variable{P:Program}{w:World}{K:PySem.W.Frag}{mg:Str->Option Value}{base:Heap}
theorem zhP:∀{kvs:List (Key×V)} {kv:Key×V},(kvs.map (·.1)).Nodup->kv∈kvs->z3 kvs kv.1=some kv.2
 |p::kvs,kv,nd,h=>by
  rw[List.map_cons,List.nodup_cons] at nd
  rcases List.mem_cons.mp h with h|h
  ·rw[h];exact zah rfl
  ·rw[zae λz=>nd.1 (by rw[z];exact List.mem_map.mpr ⟨_,h,rfl⟩)]
   exact zhP nd.2 h
noncomputable def zeV:Sp:=λvs H Q _=>∃(l:Addr) (us:List V) (nm:Str) (L:List Lt),vs=[.ref l]/\H l=some (.lst us)/\LtsI H nm us L/\L.length<=60/\∀(l':Addr) (us':List V) (L':List Lt) (H':Hp),H l'=none->H' l'=some (.lst us')->LtsI H' nm us' L'->(∀p∈L',p∈L)->(∀x n b,(x,n,b)∈L->∃n' b',(x,n',b')∈L'/\n<=n')->L'.length<=L.length->(∀c o,H c=some o->H' c=some o)->Q (.ref l') H'
theorem zhT(Y:Ev K mg):FnOk P w K mg base CX0 1 Y.a__law_newest Y.d__law_newest za0 zeV:=by
 refine Y._law_newest.fn.okQ c__law_newest (λvs H Q E h=>?_) (λcdv A outer s H vs Q E hr h=>?_)
 ·obtain ⟨l,us,nm,L,rfl,_⟩:=h;rfl
 ·obtain ⟨l,us,nm,L,rfl,hl,R,l6,q⟩:=h
  have ul:=R.len
  refine⟨_,(zf (zcp 1 c__law_newest.nd zd2)
   (zf (zbw PassesOwn.never rfl (zcA (qv 0)) (zr 2 c__law_newest.nd) (zk (zaQ (t_w (znf (zB (zpd (hu1 hr)) (zM ix_tup (qv 2) zg) (qc 1)) (zji (zB zn8 (zM ix_tup (zlg (hu1 hr) (qc 1) (zM ix_tup (qv 2) zg)) zg) (zM ix_tup (qv 2) zg))))) (zk (zc0 (hu1 hr) (qc 1) (zM ix_tup (qv 2) zg) (qv 2))) z8)))
   (zk (zx (zcI (src:=[none,some 1]) o__law_newest_1 rfl rfl (zmQ (qc 1)) (λ_ _ _ _ _=>(zr 0 o__law_newest_1.nd)) (λ_ _ _ _ _=>zew) (λ_ _ _ _ _=>(zlg (hu1 hr) (qc 1) (qv 0)))))))),?_⟩
  refine λd hd=>?_
  have S1:=Same.new (o:= .dK []) hd
  refine⟨_,rfl,l,rfl,⟨_,SqL.of (S1 _ _ hl)⟩,?_⟩
  refine zaK (zbX (K:=K) (xs:=us)) (λi σ' H'=>(∃o2,σ'=[some (.ref l),some (.ref d),o2])/\(∃kvs M,H' d=some (.dK kvs)/\NwL H' nm kvs M/\(∀p∈M,p∈L.take i)/\(∀x n b,(x,n,b)∈L.take i->∃r,zt M x=some r/\n<=r.1)/\M.length<=i)/\Same H H') ?_ ?_ ?_ ?_
  ·exact ⟨⟨_,rfl⟩,⟨[],[],zb, .nil,(λ_ z=>nomatch z),(λx n b z=>by simp at z),Nat.le_refl _⟩,S1⟩
  ·exact λi σ' H' z=>SqL.of (z.2.2 _ _ hl)
  ·rintro i y σ' H1 hi hy ⟨⟨o2,rfl⟩,⟨kvs,M,hk1,nw,sub,cov,ml⟩,s1⟩
   obtain⟨⟨x,r⟩,ep,t,vx,vy,rfl,ht,wa⟩:=R.get hy
   have tk:L.take (i+1)=L.take i ++ [(x,r)]:=by rw[List.take_add_one,ep];rfl
   have hi':i<us.length:=hi
   have ht1:=s1 _ _ ht
   have kl:=nw.len
   have lt1:LtO H1 (.ref t) x nm r:=⟨t,vx,vy,rfl,ht1,wa.mono λc xs e=>s1 _ _ e⟩
   have put:zt M x=none\/(∃r',zt M x=some r'/\r'.1<r.1)->∀kvs',kvs'=z6 kvs (Sum.inr x) (.ref t)->(∃kvs M,upd H1 d (.dK kvs') d=some (.dK kvs)/\NwL (upd H1 d (.dK kvs')) nm kvs M/\(∀p∈M,p∈L.take (i+1))/\(∀x n b,(x,n,b)∈L.take (i+1)->∃r,zt M x=some r/\n<=r.1)/\M.length<=i+1):=by
    intro hlt kvs' ek
    subst ek
    have m12:∀c xs,H1 c=some (.tup xs)->upd H1 d (.dK (z6 kvs (Sum.inr x) (.ref t))) c=some (.tup xs):=λc xs e=>by rw[ze (zQ e hk1 (λz=>nomatch z))];exact e
    refine⟨_,zb3 M x r,zb,(nw.mono m12).put (lt1.mono m12),λp hp=>?_,λx' n b hm=>?_,?_⟩
    ·rw[tk]
     rcases zga hp with h|h
     ·exact List.mem_append_left _ (sub p h)
     ·exact List.mem_append_right _ (List.mem_singleton.mpr h)
    ·rw[tk] at hm
     rw[zdj]
     by_cases c:x'=x
     ·rw[if_pos c]
      refine⟨r,rfl,?_⟩
      rcases List.mem_append.mp hm with hm|hm
      ·obtain ⟨r2,e2,h2⟩:=cov x' n b hm
       rw[c] at e2
       rcases hlt with z|⟨r',z,zl⟩
       ·rw[z] at e2;cases e2
       ·rw[z] at e2;cases e2;omega
      ·have:=List.mem_singleton.mp hm
       cases this;exact Int.le_refl _
     ·rw[if_neg c]
      rcases List.mem_append.mp hm with hm|hm
      ·exact cov x' n b hm
      ·have:=List.mem_singleton.mp hm
       cases this;exact absurd rfl c
    ·have e1:=zbG kvs (Sum.inr x) (.ref t)
     have e2:=((nw.mono m12).put (lt1.mono m12)).len
     omega
   refine⟨_,rfl,t,_,0,_,rfl,rfl, .inl (.inl ht1),at0,_,rfl,d,_,rfl,DGet.k (k:=Sum.inr x) hk1,_,rfl,?_⟩
   rcases nw.look x with⟨e1,e2⟩|⟨r',v',e1,e2,t',x',y',rfl,ht',_⟩
   ·rw[e2]
    refine zbA rfl (zbA rfl ⟨_,rfl,_,rfl,_,rfl,t,_,0,_,rfl,rfl, .inl (.inl ht1),at0,d,_,rfl, .inl ⟨kvs,Sum.inr x,hk1,rfl,zm (by omega),rfl⟩,⟨_,rfl⟩,put (.inl e1) _ rfl,λc o e=>by rw[ze (zh e hd)];exact s1 _ _ e⟩)
   ·rw[e2]
    refine zbM rfl ⟨_,rfl,_,rfl,t,_,0,_,rfl,rfl, .inl (.inl ht1),at0,d,_,rfl,by have:=DGet.k (k:=Sum.inr x) hk1;rw[e2] at this;exact this,t',_,2,_,rfl,rfl, .inl (.inl ht'),zI (j:=2) rfl,_,rfl,t,_,2,_,rfl,rfl, .inl (.inl ht1),zI (j:=2) rfl,_,_,rfl,rfl,_,rfl,zcn (λe=>?_) (λe=>?_)⟩
    ·exact ⟨_,rfl,_,rfl,_,rfl,t,_,0,_,rfl,rfl, .inl (.inl ht1),at0,d,_,rfl, .inl ⟨kvs,Sum.inr x,hk1,rfl,zm (by omega),rfl⟩,⟨_,rfl⟩,put (.inr ⟨r',e1,of_decide_eq_true e⟩) _ rfl,λc o e=>by rw[ze (zh e hd)];exact s1 _ _ e⟩
    ·have e:¬r'.1<r.1:=λz=>by rw[decide_eq_true z] at e;exact absurd e (by decide)
     refine⟨⟨_,rfl⟩,⟨kvs,M,hk1,nw,λp hp=>by rw[tk];exact List.mem_append_left _ (sub p hp),λx2 n b hm=>?_,by omega⟩,s1⟩
     rw[tk] at hm
     rcases List.mem_append.mp hm with hm|hm
     ·exact cov x2 n b hm
     ·have:=List.mem_singleton.mp hm
      cases this
      exact⟨r',e1,Int.not_lt.mp e⟩
  ·rintro σ' H1 ⟨⟨o2,rfl⟩,⟨kvs,M,hk1,nw,sub,cov,ml⟩,s1⟩
   rw[ul,List.take_length] at sub cov
   rw[ul] at ml
   have kl:=nw.len
   refine⟨_,rfl,d,kvs,rfl,hk1,λob nd=>?_⟩
   have k12:∀c o,c≠d->H1 c=some o->upd H1 d (.frz ob (.dK kvs)) c=some o:=λc o n e=>by rw[ze n];exact e
   refine zbv zn7 (λl' i ys σ' H'=>(∃o0,σ'=[o0,some (.ref d)])/\H' d=some (.frz ob (.dK kvs))/\ys=(kvs.map (·.2)).take i/\(∀c o,c≠d->H1 c=some o->H' c=some o)) ?_ (λl' i ys σ' H' hl' z=>z.2.1) ?_ ?_
   ·refine λl' hl'=>⟨⟨_,rfl⟩,?_,rfl,λc o n e=>Same.new hl' _ _ (k12 c o n e)⟩
    exact Same.new hl' _ _ zb
   ·rintro l' i y0 ys σ' H2 hl' hi hy ⟨⟨o0,rfl⟩,hz,rfl,k2⟩ hl2
    rw[List.length_map] at hi
    rw[List.getElem?_map,List.getElem?_eq_getElem hi] at hy
    cases hy
    have val:z3 kvs kvs[i].1=some kvs[i].2:=zhP nd (List.getElem_mem hi)
    have tkv:(kvs.map (·.2)).take (i+1)=(kvs.map (·.2)).take i ++ [kvs[i].2]:=by rw[List.take_add_one,List.getElem?_map,List.getElem?_eq_getElem hi];rfl
    have nl:l'≠d:=λz=>by rw[z,zb] at hl';cases hl'
    refine⟨_,rfl,_,rfl,d,_,rfl, .inl ⟨kvs,kvs[i].1, .inr ⟨ob,hz⟩,rfl,val.symm⟩,hl2,zm (by rw[List.length_take,List.length_map];omega),⟨_,rfl⟩,by rw[ze (Ne.symm nl)];exact hz,tkv.symm,λc o n e=>?_⟩
    rw[ze (zh (k12 c o n e) hl')];exact k2 c o n e
   ·rintro l' ys σ' H2 hl' ⟨⟨o0,rfl⟩,hz,rfl,k2⟩ hl2
    have m2:∀c xs,H1 c=some (.tup xs)->H2 c=some (.tup xs):=λc xs e=>k2 _ _ (zQ e hk1 (λz=>nomatch z)) e
    have nl:l'≠d:=λz=>by rw[z,zb] at hl';cases hl'
    have hl1:H1 l'=none:=by rw[ze nl] at hl';exact hl'
    have R2:=(nw.mono m2).vals kvs.length
    rw[kl,List.take_length,←kl] at R2
    rw[List.length_map] at hl2
    refine q l' _ M H2 (zbp s1 hl1) hl2 R2 sub (λx n b hm=>?_) ml λc o e=>k2 c o (zh e hd) (s1 _ _ e)
    obtain⟨r,e,h⟩:=cov x n b hm
    exact⟨r.1,r.2,zda e,h⟩
end
section
variable{P:Program}{w:World}{K:PySem.W.Frag}{mg:Str->Option Value}{base:Heap}
theorem TrX.same{H H':Hp}{v:V}{d:PyData}(h:TrX K H v d)(s:Same H H'):TrX K H' v d:=by
 induction h with
 |non=>exact .non
 |int i=>exact .int i
 |str x h=>exact .str x h
 |tup e hl h ih=>
  refine .tup ?_ hl ih
  rcases e with(e|⟨o,e⟩)|e
  ·exact .inl (.inl (s _ _ e))
  ·exact .inl (.inr ⟨o,s _ _ e⟩)
  ·exact .inr e
 |lst e hl h ih=>exact .lst (s _ _ e) hl ih
theorem zia{H:Hp}{p:Addr}{xs:List Str}(e:H p=some (.tup (xs.map V.str)))(h:∀y∈xs,zi y=true):TrX K H (.ref p) (.tuple (zu xs)):=by
 refine .tup (.inl (.inl e)) (by unfold zu;rw[List.length_map,List.length_map]) λi v d e1 e2=>?_
 unfold zu at e2
 rw[List.getElem?_map] at e1 e2
 cases e3:xs[i]? with
 |none=>rw[e3] at e1;cases e1
 |some x=>rw[e3] at e1 e2;cases e1;cases e2;exact .str x (zaj (h x (List.mem_of_getElem? e3)))
theorem zg0{H:Hp}{x y:V}{b:Option WM}(h:WmAt H x y b)(ok:zcS b):TrX K H x (zbr b):=by
 match b,h,ok with
 |none,⟨h1,_⟩,_=>rw[h1];exact .non
 |some (w,ms),⟨pw,pm,h1,h2,h3,h4⟩,ok=>rw[h1];exact zia h3 ok.1
theorem zgK{H:Hp}{x y:V}{b:Option WM}(h:WmAt H x y b)(ok:zcS b):TrX K H y (zbU b):=by
 match b,h,ok with
 |none,⟨_,e,h1,h2⟩,_=>rw[h1];exact .tup (.inl (.inl h2)) rfl λi v d e1=>by cases e1
 |some (w,ms),⟨pw,pm,h1,h2,h3,h4⟩,ok=>rw[h2];exact zia h4 ok.2
theorem zmK{H:Hp}{q:Addr}{b:Option WM}(h:GoR H q b)(ok:zcS b):TrX K H (.ref q) (.tuple [zbr b,zbU b]):=by
 obtain⟨x,y,e,wa⟩:=h
 refine .tup (.inl (.inl e)) rfl λi v d e1 e2=>?_
 match i with
 |0=>cases e1;cases e2;exact zg0 wa ok
 |1=>cases e1;cases e2;exact zgK wa ok
 |i+2=>cases e1
noncomputable def zk5:Option Hr->PyData|none=> .tuple [.int 0, .none, .tuple []]|some r=> .tuple [.int r.1,zbr r.2,zbU r.2]
noncomputable def zn9(b:Option WM):PyData:= .tuple [zbr b,zbU b]
noncomputable def zf0(hrs:List D)(b:Option WM)(ts:List Str)(m:Tb):PyData:= .tuple [zbr b,zbU b, .list (ts.map λo=>zk5 (zt m o)), .list (ts.map λo=>zn9 (zcc hrs b o))]
theorem zbc{k:Nat}:∀{ds:List PyData},(∀d∈ds,d.depth<=k)->PyData.depthAll ds<=k
 |[],_=>by rw[PyData.depthAll];exact Nat.zero_le _
 |d::ds,h=>by
  rw[PyData.depthAll]
  have h1:=h d List.mem_cons_self
  have h2:=zbc (ds:=ds) λd hd=>h d (List.mem_cons_of_mem _ hd)
  omega
theorem zkf{hrs:List D}{b:Option WM}{ts:List Str}{m:Tb}:(zf0 hrs b ts m).depth<=60:=by
 have h1:=zbl (b:=b)
 have h2:=zce (b:=b)
 have h3:PyData.depthAll (ts.map λo=>zk5 (zt m o))<=3:=zbc λd hd=>by
  obtain⟨o,_,rfl⟩:=List.mem_map.mp hd
  cases zt m o with
  |none=>show (PyData.tuple [.int 0, .none, .tuple []]).depth<=3;rw[PyData.depth,PyData.depthAll,PyData.depthAll,PyData.depthAll,PyData.depthAll,PyData.depth,PyData.depth,PyData.depth,PyData.depthAll];decide
  |some r=>
   show(PyData.tuple [.int r.1,zbr r.2,zbU r.2]).depth<=3
   have h1:=zbl (b:=r.2)
   have h2:=zce (b:=r.2)
   rw[PyData.depth,PyData.depthAll,PyData.depthAll,PyData.depthAll,PyData.depthAll,PyData.depth]
   omega
 have h4:PyData.depthAll (ts.map λo=>zn9 (zcc hrs b o))<=3:=zbc λd hd=>by
  obtain⟨o,_,rfl⟩:=List.mem_map.mp hd
  have h1:=zbl (b:=zcc hrs b o)
  have h2:=zce (b:=zcc hrs b o)
  show(PyData.tuple [zbr (zcc hrs b o),zbU (zcc hrs b o)]).depth<=3
  rw[PyData.depth,PyData.depthAll,PyData.depthAll,PyData.depthAll]
  omega
 unfold zf0
 rw[PyData.depth,PyData.depthAll,PyData.depthAll,PyData.depthAll,PyData.depthAll,PyData.depthAll,PyData.depth,PyData.depth]
 omega
theorem HsAt.same{C:Addr}{hs:List Str}{H H':Hp}{p dx hd td ga:Addr}{v:V}{nm:Str}{n:Int}{b:Option WM}{kh kt:List (Key×V)}{hm tm:Tb}(a:HsAt C hs H p dx hd td ga v nm n b kh hm kt tm)(s:Same H H'):HsAt C hs H' p dx hd td ga v nm n b kh hm kt tm:=
 ⟨s _ _ a.hp,s _ _ a.hh,a.th.mono λc xs e=>s _ _ e,a.oh,s _ _ a.ht,a.tt.mono λc xs e=>s _ _ e,a.ot,a.gr.mono λc xs e=>s _ _ e,a.go,a.ne⟩
noncomputable def zet(K:PySem.W.Frag):Sp:=λvs H Q _=>∃(v:V) (nm:Str) (l:Addr) (us:List V) (L:List Lt) (g:Str) (hs:List Str) (ps:List (Str×Str)) (lks hds:List D),vs=[v, .str nm, .ref l]/\H l=some (.lst us)/\LtsI H nm us L/\(∀p∈L,p.1∈hs/\hrR p.1 p.2)/\L.length<=60/\Rep H v (zar g hs ps lks hds)/\TownOk g hs ps lks hds/\(∀d∈hds,∃ds,d= .tup ds/\ds.length<=12)/\nm∈hs/\
 ∀(rv:V) (b:Option WM) (H':Hp),(nm=g->b=some ([nm],[]))->(nm≠g->zgv (zA hs lks nm) (zci nm (zA hs lks nm) (zT L)) b)->TrX K H' rv (zf0 (zA hs hds nm) b (due hs ps nm) (zT L))->Same H H'->Q rv H'
theorem zhh(Y:Ev K mg):FnOk P w K mg base CX0 10 Y.a__law_heard_by Y.d__law_heard_by zay (zet K):=by
 have G_tied:FnOk P w K mg base CX0 1 Y.a_tied Y.d_tied zcD zeg:=zdE Y
 have G_House___init__:FnOk P w K mg base CX0 1 Y.a_House___init__ Y.d_House___init__ zan (zhZ Y.c_House):=zkE Y
 have G_House_begin:FnOk P w K mg base CX0 8 Y.a_House_begin Y.d_House_begin za1 (zgt Y.c_House):=ziq Y
 have G_House_hear:FnOk P w K mg base CX0 9 Y.a_House_hear Y.d_House_hear zbh (zhr Y.c_House):=zkx Y
 have G__law_last_told:FnOk P w K mg base CX0 1 Y.a__law_last_told Y.d__law_last_told zal zhV:=zj7 Y
 have G_House_way:FnOk P w K mg base CX0 1 Y.a_House_way Y.d_House_way zbK (zeH Y.c_House 0):=zlp Y
 have G_House_marks:FnOk P w K mg base CX0 1 Y.a_House_marks Y.d_House_marks zaZ (zeH Y.c_House 1):=zi4 Y
 have G_House_heard:FnOk P w K mg base CX0 1 Y.a_House_heard Y.d_House_heard zaF (zd5 Y.c_House Y.a_NOTHING):=zeS Y
 refine Y._law_heard_by.fn.okQ c__law_heard_by (λvs H Q E h=>?_) (λcdv A outer s H vs Q E hr h=>?_)
 ·obtain ⟨v,nm,l,us,L,g,hs,ps,lks,hds,rfl,_⟩:=h;rfl
 ·obtain ⟨v,nm,l,us,L,g,hs,ps,lks,hds,rfl,hl,R,lok,l6,hv,T,hf,hnm,q⟩:=h
  have ul:=R.len
  have T10:=T.ten
  refine⟨_,(zf (zcp 3 c__law_heard_by.nd (zoC Y.mk_House G_House___init__ (hr.mono (by decide)) Y.m_House Y.House___init__.b .nil zo (za (qv 0) (za (qv 1) zd))))
   (zf (zw 4 c__law_heard_by.nd (zcE (qc 3) Y.k_House Y.House_begin.m G_House_begin (hr.mono (by decide)) Y.House_begin.b .nil zo))
   (zf (zbw PassesOwn.never rfl (zcA (qv 2)) (zr 5 c__law_heard_by.nd) (zk (zw 4 c__law_heard_by.nd (zz ziB (qv 4) (zd4 (qc 3) Y.k_House Y.House_hear.m G_House_hear (hr.mono (by decide)) Y.House_hear.b .nil zo (za (qv 5) zd))))))
   (zf (zcp 6 c__law_heard_by.nd (zj G__law_last_told (hr.mono (by decide)) Y._law_last_told.mg Y._law_last_told.kp Y._law_last_told.b .nil zo (za (qv 4) zd)))
   (zf (zcx 7 (src:=[none,some 6]) o__law_heard_by_1 rfl rfl c__law_heard_by.nd (zcA (zj G_tied (hr.mono (by decide)) Y.tied.mg Y.tied.kp Y.tied.b .nil zo (za (qv 0) (za (qv 1) zd)))) (λ_ _ _ _ _=>(zr 0 o__law_heard_by_1.nd)) (λ_ _ _ _ _=>zew) (λ_ _ _ _ _=>(zeQ (hu1 hr) (qc 1) (qv 0) (zD (za zch (za (zD zd) zd))))))
   (zk (zx (zD (za (zcE (qc 3) Y.k_House Y.House_way.m G_House_way (hr.mono (by decide)) Y.House_way.b .nil zo) (za (zcE (qc 3) Y.k_House Y.House_marks.m G_House_marks (hr.mono (by decide)) Y.House_marks.b .nil zo) (za (zcI (src:=[none,some 3]) o__law_heard_by_2 rfl rfl (zcA (zj G_tied (hr.mono (by decide)) Y.tied.mg Y.tied.kp Y.tied.b .nil zo (za (qv 0) (za (qv 1) zd)))) (λ_ _ _ _ _=>(zr 0 o__law_heard_by_2.nd)) (λ_ _ _ _ _=>zew) (λ_ _ _ _ _=>(zd4 (qc 1) Y.k_House Y.House_heard.m G_House_heard (hr.mono (by decide)) Y.House_heard.b .nil zo (za (qv 0) zd)))) (za (qv 7) zd)))))))))))),?_⟩
  refine⟨_,rfl,_,rfl,λp dx np ndx nex=>⟨p,dx,v,nm,rfl,zb,λhd td ga e H1 f1 f2 f3 f4 nht hp1 hh1 ht1 hg1 he1 k1=>⟨rfl,?_⟩⟩⟩
  have ndp:∀{c o},H c=some o->c≠p:=λ{c o} e=>zh e np
  have s01:Same H H1:=λc o e=>k1 c o (ndp e) (by rw[ze (ndp e),ze (zh e ndx)];exact e)
  have A1:HsAt Y.c_House hs H1 p dx hd td ga v nm 0 none [] [] [] []:=⟨hp1,hh1, .nil, .nil,ht1, .nil, .nil,⟨.non, .ref e,hg1,rfl,e,rfl,he1⟩,trivial,nht⟩
  have u01:Same H (upd (upd H dx (.own p)) p (.ins Y.c_House dx [])):=λc o e=>by rw[ze (ndp e),ze (zh e ndx)];exact e
  have hd0:H hd=none:=u01.free f1
  have td0:H td=none:=u01.free f2
  clear f1 f2 f3 f4 k1 u01
  have own:∀{c o},H c=some o->c≠p/\c≠hd/\c≠td:=λ{c o} e=>⟨zh e np,zh e hd0,zh e td0⟩
  refine⟨_,rfl,p,dx,_,rfl,hp1,rfl,p,dx,hd,td,ga,v,nm,0,g,hs,ps,lks,hds,rfl,A1,hv.same s01,T,hf,hnm,λlb ga2 us2 n2 b2 kt2 tm2 L2 H2 hlb hlb2 R2 A2 I2 k2 ll2=>?_⟩
  have s02:Same H H2:=λc o e=>k2 c o (own e).1 (own e).2.1 (own e).2.2 (s01 _ _ e)
  refine⟨_,rfl,l,rfl,⟨_,SqL.of (s02 _ _ hl)⟩,?_⟩
  refine zaK (zbX (K:=K) (xs:=us)) (λi σ' H'=>∃lt ust T' ga' n' b kh kt tm o5 o6 o7,σ'=[some v,some (.str nm),some (.ref l),some (.ref p),some (.ref lt),o5,o6,o7]/\H' lt=some (.lst ust)/\LtsO H' nm ust T'/\T'.length<=10+10*i/\HsAt Y.c_House hs H' p dx hd td ga' v nm n' b kh (zT (L.take i)) kt tm/\HInv g nm (zA hs lks nm) (zA hs hds nm) (due hs ps nm) b (zT (L.take i)) tm T'/\Same H H') ?_ ?_ ?_ ?_
  ·exact ⟨lb,us2,L2,ga2,n2,b2,[],kt2,tm2,_,_,_,rfl,hlb2,R2,by omega,A2,I2,s02⟩
  ·exact λi σ' H' ⟨_,_,_,_,_,_,_,_,_,_,_,_,_,_,_,_,_,_,s⟩=>SqL.of (s _ _ hl)
  ·rintro i y σ' H3 hi hy ⟨lt,ust,T',ga3,n3,b3,kh3,kt3,tm3,o5,o6,o7,rfl,hlt3,R3,tl3,A3,I3,s3⟩
   obtain⟨⟨one,r⟩,ep,hlo⟩:=R.get hy
   have tk:L.take (i+1)=L.take i ++ [(one,r)]:=by rw[List.take_add_one,ep];rfl
   have hi':i<us.length:=hi
   obtain⟨h1,h2⟩:=lok _ (List.mem_of_getElem? ep)
   have rl:=R3.len
   refine⟨_,rfl,_,rfl,p,dx,_,rfl,A3.hp,rfl,_,rfl,p,dx,hd,td,ga3,v,y,nm,one,r,n3,b3,kh3,kt3,_,tm3,T',g,hs,ps,lks,hds,rfl,hlo.mono λc xs e=>s3 _ _ e,h1,h2,A3,I3,hv.same s3,T,hf,hnm,λl4 ga4 us4 n4 b4 kh4 kt4 tm4 L4 H4 hl4 hl4' R4 A4 I4 k4 ll4=>?_⟩
   have k34:∀{c o},H3 c=some o->(∀C dx fs,o≠ .ins C dx fs)->(∀kv,o≠ .dK kv)->H4 c=some o:=λ{c o} e n1 n2=>k4 c o (zQ e A3.hp (n1 _ _ _)) (zQ e A3.hh (n2 _)) (zQ e A3.ht (n2 _)) e
   have hlt4:=k34 hlt3 (λ_ _ _ z=>nomatch z) (λ_ z=>nomatch z)
   have m34:∀c xs,H3 c=some (.tup xs)->H4 c=some (.tup xs):=λc xs e=>k34 e (λ_ _ _ z=>nomatch z) (λ_ z=>nomatch z)
   have r4l:=R4.len
   refine⟨lt,l4,_,_,rfl,rfl,hlt4,hl4',Nat.le_of_lt (zm (by omega)),λl5 hl5=>?_⟩
   have S5:=Same.new (o:= .lst (ust ++us4)) hl5
   have mS:∀c xs,H4 c=some (.tup xs)->(upd H4 l5 (.lst (ust ++us4))) c=some (.tup xs):=λc xs e=>S5 _ _ e
   rw[tk,ze1]
   exact⟨l5,ust ++us4,T' ++L4,ga4,n4,b4,kh4,kt4,tm4,_,_,_,rfl,zb,(R3.mono λc xs e=>mS _ _ (m34 _ _ e)).append (R4.mono mS),by rw[List.length_append];omega,A4.same S5,I4,λc o e=>S5 _ _ (k4 c o (own e).1 (own e).2.1 (own e).2.2 (s3 _ _ e))⟩
  ·rintro σ' H3 ⟨lt,ust,T',ga3,n3,b3,kh3,kt3,tm3,o5,o6,o7,rfl,hlt3,R3,tl3,A3,I3,s3⟩
   rw[ul] at tl3 A3 I3
   rw[List.take_length] at A3 I3
   refine⟨_,rfl,lt,ust,nm,T',rfl,hlt3,R3,by omega,λd kvs H4 hd4 hk4 P4 s4=>?_⟩
   have A4:=A3.same s4
   have s04:=s3.trans s4
   refine⟨_,rfl,_,rfl,v,nm,g,hs,ps,lks,hds,rfl,hv.same s04,T,λl5 ts H5 hl5 ht5 tp tsr s5=>?_⟩
   have ets:=zfy T tp tsr
   have tin:∀o∈ts,o∈hs:=λo ho=>zdd T (tp.mem_iff.mp ho)
   have tl:ts.length<=10:=by rw[tp.length_eq];exact zcY T nm
   rw[←ets] at q I3
   refine⟨l5,rfl,⟨_,SqL.of ht5⟩,?_⟩
   refine zbv (zbX (K:=K) (xs:=ts.map V.str)) (λl' i ys σ' H'=>(∃o0,σ'=[o0,some (.ref d)])/\AtG (λH b o=>GoR H b (zb1 T' o)) H' ys (ts.take i)/\Same H5 H') ?_ (λl' i ys σ' H' hl' z=>SqL.of (z.2.2 _ _ ht5)) ?_ ?_
   ·exact λl' hl'=>⟨⟨_,rfl⟩,⟨rfl,λi v p e=>by cases e⟩,Same.new hl'⟩
   ·rintro l' i y0 ys σ' H6 hl' hi hy ⟨⟨o0,rfl⟩,a6,s6⟩ hl6
    rw[List.length_map] at hi
    rw[List.getElem?_map,List.getElem?_eq_getElem hi] at hy
    cases hy
    have tk:ts.take (i+1)=ts.take i ++ [ts[i]]:=by rw[List.take_add_one,List.getElem?_eq_getElem hi];rfl
    have yl:=a6.1
    rw[List.length_take] at yl
    rw[tk]
    have hk6:=s6 _ _ (s5 _ _ hk4)
    refine⟨_,rfl,d,rfl, .inl ⟨_, .inl hk6⟩,_,rfl,few rfl,λe2 he2=>⟨few rfl,λp2 hp2=>?_⟩⟩
    have S7:=(Same.new (o:= .tup ([]:List V)) he2).trans (Same.new (o:= .tup [V.non,V.ref e2]) hp2)
    have G7:GoR (upd (upd H6 e2 (.tup ([]:List V))) p2 (.tup [V.non,V.ref e2])) p2 none:=⟨.non, .ref e2,zb,rfl,e2,rfl,Same.new hp2 _ _ zb⟩
    generalize (upd (upd H6 e2 (HO.tup ([]:List V))) p2 (HO.tup [V.non,V.ref e2]))=H7 at *
    refine⟨_,DGet.k (k:=Sum.inr ts[i]) (S7 _ _ hk6),S7 _ _ hl6,zm (by omega),⟨_,rfl⟩,?_,λc o e=>by rw[ze (zh e hl')];exact S7 _ _ (s6 _ _ e)⟩
    have hl7:=S7 _ _ hl6
    have up:∀(z:V) c xs,H7 c=some (.tup xs)->upd H7 l' (.lst (ys ++ [z])) c=some (.tup xs):=λz c xs e=>by rw[ze (zQ e hl7 (λz=>nomatch z))];exact e
    rcases P4 ts[i] with⟨e1,e2'⟩|⟨q',e1,e2'⟩
    ·rw[e1]
     exact AtG.snoc (AtG.mono a6 λc o h=>GoR.mono h λc xs e=>up _ _ _ (S7 _ _ e)) (by rw[e2'];exact G7.mono (up _))
    ·rw[e1]
     exact AtG.snoc (AtG.mono a6 λc o h=>GoR.mono h λc xs e=>up _ _ _ (S7 _ _ e)) (e2'.mono λc xs e=>up _ _ _ (S7 _ _ (s6 _ _ (s5 _ _ e))))
   rintro l7 zs σ' H6 hl7' ⟨⟨o0,rfl⟩,a6,s6⟩ hl7
   rw[List.length_map,List.take_length] at a6
   have A6:=(A4.same s5).same s6
   have s06:=(s04.trans s5).trans s6
   obtain⟨x,y,hg,wa⟩:=A6.gr
   refine⟨_,rfl,p,dx,_,rfl,A6.hp,rfl,p,dx,hd,td,ga3,v,nm,n3,[x,y],x,rfl,A6.hp,hg,rfl,?_⟩
   refine⟨_,rfl,p,dx,_,rfl,A6.hp,rfl,p,dx,hd,td,ga3,v,nm,n3,[x,y],y,rfl,A6.hp,hg,rfl,?_⟩
   refine⟨_,rfl,_,rfl,v,nm,g,hs,ps,lks,hds,rfl,hv.same s06,T,λl8 ts2 H8 hl8 ht8 tp2 tsr2 s8=>?_⟩
   have ets2:ts2=ts:=(zfy T tp2 tsr2).trans ets.symm
   subst ets2
   have A8:=A6.same s8
   refine⟨l8,rfl,⟨_,SqL.of ht8⟩,?_⟩
   refine zbv (zbX (K:=K) (xs:=ts2.map V.str)) (λl' i ys σ' H'=>(∃o0,σ'=[o0,some (.ref p)])/\ys=(ts2.take i).map (λo=>(z3 kh3 (Sum.inr o)).getD (.ref Y.a_NOTHING))/\Same H8 H') ?_ (λl' i ys σ' H' hl' z=>SqL.of (z.2.2 _ _ ht8)) ?_ ?_
   ·exact λl' hl'=>⟨⟨_,rfl⟩,rfl,Same.new hl'⟩
   ·rintro l' i y0 ys σ' H9 hl' hi hy ⟨⟨o0,rfl⟩,rfl,s9⟩ hl9
    rw[List.length_map] at hi
    rw[List.getElem?_map,List.getElem?_eq_getElem hi] at hy
    cases hy
    have tk:ts2.take (i+1)=ts2.take i ++ [ts2[i]]:=by rw[List.take_add_one,List.getElem?_eq_getElem hi];rfl
    have A9:=A8.same s9
    refine⟨_,rfl,p,dx,_,rfl,A9.hp,rfl,_,rfl,p,dx,hd,td,ga3,v,nm,ts2[i],n3,kh3,rfl,A9.hp,A9.hh,hl9,zm (by rw[List.length_map,List.length_take];omega),⟨_,rfl⟩,by rw[tk,List.map_append];rfl,λc o e=>by rw[ze (zh e hl')];exact s9 _ _ e⟩
   rintro lA zsA σ' HA hlA' ⟨⟨o0,rfl⟩,rfl,sA⟩ hlA
   rw[List.length_map,List.take_length] at hlA
   refine⟨_,rfl,few rfl,λpr hpr=>?_⟩
   have SB:=Same.new (o:= .tup [x,y,V.ref lA,V.ref l7]) hpr
   have s6B:=(s8.trans sA).trans SB
   have AB:=A6.same s6B
   have m6B:∀c xs,H6 c=some (.tup xs)->(upd HA pr (.tup [x,y,V.ref lA,V.ref l7])) c=some (.tup xs):=λc xs e=>s6B _ _ e
   have waB:=wa.mono m6B
   have gok:=A6.go.wm
   refine q (.ref pr) b3 _ I3.goal I3.best (.tup (.inl (.inl zb)) rfl λi vv dd e1 e2=>?_) (s06.trans s6B)
   match i with
   |0=>cases e1;cases e2;exact zg0 waB gok
   |1=>cases e1;cases e2;exact zgK waB gok
   |2=>
    cases e1;cases e2
    refine .lst (SB _ _ hlA) (by rw[List.length_map,List.length_map]) λi vv dd e1 e2=>?_
    rw[List.getElem?_map] at e1 e2
    cases e3:ts2[i]? with
    |none=>rw[e3] at e1;cases e1
    |some o=>
     rw[e3] at e1 e2;cases e1;cases e2
     show TrX K _ ((z3 kh3 (Sum.inr o)).getD (V.ref Y.a_NOTHING)) (zk5 (zt (zT L) o))
     rcases AB.th.look o with⟨e4,e5⟩|⟨r,v',e4,e5,t,x',y',rfl,ht,wa'⟩
     ·rw[e4,e5]
      refine .tup (Y.t_NOTHING _) rfl λi vv dd e1 e2=>?_
      match i with
      |0=>cases e1;cases e2;exact .int 0
      |1=>cases e1;cases e2;exact .non
      |2=>cases e1;cases e2;exact .tup (Y.u_NOTHING _) rfl λi v d e1=>by cases e1
      |i+3=>cases e1
     ·rw[e4,e5]
      have wok:zcS r.2:=by
       have:=A3.oh.look e4
       unfold hrR at this
       match hr2:r.2,this with
       |none,_=>exact trivial
       |some (w,ms),h=>exact ⟨h.2.2.1,h.2.2.2.1⟩
      refine .tup (.inl (.inl ht)) rfl λi vv dd e1 e2=>?_
      match i with
      |0=>cases e1;cases e2;exact .int _
      |1=>cases e1;cases e2;exact zg0 wa' wok
      |2=>cases e1;cases e2;exact zgK wa' wok
      |i+3=>cases e1
   |3=>
    cases e1;cases e2
    refine .lst (s6B _ _ hl7) (by rw[List.length_map];exact a6.1) λi vv dd e1 e2=>?_
    rw[List.getElem?_map] at e2
    cases e3:ts2[i]? with
    |none=>rw[e3] at e2;cases e2
    |some o=>
     rw[e3] at e2;cases e2
     obtain⟨bq,rfl,gq⟩:=a6.2 i vv o e1 e3
     have eo:zb1 T' o=zcc (zA hs hds nm) b3 o:=by rw[I3.last,I3.told o (List.mem_of_getElem? e3)]
     rw[eo] at gq
     exact zmK (gq.mono m6B) (zlx T hf hnm A6.go)
   |i+4=>cases e1
end
section
variable{P:Program}{w:World}{K:PySem.W.Frag}{mg:Str->Option Value}{base:Heap}
theorem zoz{hs:List Str}{i:Nat}{y:V}(h:(hs.map V.str)[i]?=some y):∃x,hs[i]?=some x/\y= .str x:=by
 rw[List.getElem?_map] at h
 cases e:hs[i]? with
 |none=>rw[e] at h;cases h
 |some x=>rw[e] at h;cases h;exact⟨x,rfl,rfl⟩
theorem zpw{H:Hp}{x y:V}{b:Option WM}(h:WmAt H x y b)(ok:zcS b):Tr H x (zbr b)/\Tr H y (zbU b):=by
 match b,h,ok with
 |none,⟨h1,e,h2,h3⟩,_=>rw[h1,h2];exact⟨.non,zmX h3⟩
 |some (w,ms),⟨pw,pm,h1,h2,h3,h4⟩,ok=>rw[h1,h2];exact⟨zfc h3 λy hy=>zaj (ok.1 y hy),zfc h4 λy hy=>zaj (ok.2 y hy)⟩
theorem LtO.tr{H:Hp}{v:V}{a c:Str}{r:Hr}(h:LtO H v a c r)(ha:zi a=true)(hc:zi c=true)(ok:zcS r.2):∃d,Tr H v d:=by
 obtain⟨t,x,y,rfl,ht,wa⟩:=h
 obtain⟨t1,t2⟩:=zpw wa ok
 refine⟨.tuple [.str a, .str c, .int r.1,zbr r.2,zbU r.2], .tup ht rfl λi v d e1 e2=>?_⟩
 match i with
 |0=>cases e1;cases e2;exact .str a (zaj ha)
 |1=>cases e1;cases e2;exact .str c (zaj hc)
 |2=>cases e1;cases e2;exact .int _
 |3=>cases e1;cases e2;exact t1
 |4=>cases e1;cases e2;exact t2
 |i+5=>cases e1
theorem hrR.wm{x:Str}{r:Hr}(h:hrR x r):zcS r.2:=by
 unfold hrR at h
 match hr2:r.2,h with
 |none,_=>exact trivial
 |some (w,ms),h=>exact ⟨h.2.2.1,h.2.2.2.1⟩
theorem LtsI.mem{H:Hp}{nm:Str}{us:List V}{L:List Lt}(h:LtsI H nm us L){u:V}(hu:u∈us):∃p∈L,LtO H u p.1 nm p.2:=by
 obtain⟨i,hi,e⟩:=List.getElem_of_mem hu
 obtain⟨p,ep,hp⟩:=h.get (i:=i) (v:=u) (by rw[List.getElem?_eq_getElem hi,e])
 exact⟨p,List.mem_of_getElem? ep,hp⟩
theorem LtsI.take{H:Hp}{nm:Str}{us:List V}{L:List Lt}(h:LtsI H nm us L):∀(i:Nat),LtsI H nm (us.take i) (L.take i):=by
 induction h with
 |nil=>intro i;rw[List.take_nil,List.take_nil];exact .nil
 |cons h t ih=>
  intro i
  cases i with
  |zero=>exact .nil
  |succ i=>rw[List.take_succ_cons,List.take_succ_cons];exact .cons h (ih i)
theorem zlU{H:Hp}:∀{zs:List V},(∀u∈zs,∃d,Tr H u d)->∃ds:List PyData,zs.length=ds.length/\∀(i:Nat) (v:V) (d:PyData),zs[i]?=some v->ds[i]?=some d->Tr H v d
 |[],_=>⟨[],rfl,λi v d e=>by cases e⟩
 |z::zs,h=>by
  obtain⟨d,td⟩:=h z List.mem_cons_self
  obtain⟨ds,dl,dt⟩:=zlU (zs:=zs) λu hu=>h u (List.mem_cons_of_mem _ hu)
  refine⟨d::ds,by rw[List.length_cons,List.length_cons,dl],λi v d' e1 e2=>?_⟩
  cases i with
  |zero=>cases e1;cases e2;exact td
  |succ i=>exact dt i v d' e1 e2
theorem znE{α β:Type}{f:α->β}{l:List α}(nd:(l.map f).Nodup){a b:α}(ha:a∈l)(hb:b∈l)(e:f a=f b):a=b:=by
 obtain⟨i,hi,ei⟩:=List.getElem_of_mem ha
 obtain⟨j,hj,ej⟩:=List.getElem_of_mem hb
 have h1:(l.map f)[i]?=some (f a):=by rw[List.getElem?_map,List.getElem?_eq_getElem hi,ei];rfl
 have h2:(l.map f)[j]?=some (f a):=by rw[List.getElem?_map,List.getElem?_eq_getElem hj,ej,e];rfl
 have:=zej nd h1 h2
 subst this
 rw[←ei,←ej]
theorem Uq.snoc{L:List Lt}{x:Str}{n:Int}{b:Option WM}(h:Uq L)(hn:∀p∈L,¬(p.1=x/\p.2.1=n)):Uq (L ++ [(x,n,b)]):=by
 intro x' n' b1 b2 h1 h2
 rcases List.mem_append.mp h1 with h1|h1
 ·rcases List.mem_append.mp h2 with h2|h2
  ·exact h x' n' b1 b2 h1 h2
  ·have:=List.mem_singleton.mp h2;cases this
   exact absurd ⟨rfl,rfl⟩ (hn _ h1)
 ·have e1:=List.mem_singleton.mp h1;cases e1
  rcases List.mem_append.mp h2 with h2|h2
  ·exact absurd ⟨rfl,rfl⟩ (hn _ h2)
  ·have e2:=List.mem_singleton.mp h2;cases e2;rfl
noncomputable def zjK(K:PySem.W.Frag):Sp:=λvs H Q _=>∃(a:Addr) (ns:List Int),vs=[.ref a]/\SqL K H a (ns.map V.int)/\ns.length<=63/\∀H',Q (.bl true) H'
theorem zkl(Y:Ev K mg){fl:Addr}{fdl:FuncData}(FL:Fun K "law" "law" zc4 fl fdl):FnOk P w K mg base CX0 11 fl fdl zjC (zjK K):=by
 have G__law_all:FnOk P w K mg base CX0 2 Y.a__law_all Y.d__law_all zcb (zjx K):=zkT Y
 have G__law_town:FnOk P w K mg base CX0 6 Y.a__law_town Y.d__law_town zbQ zlP:=zmM Y
 have G_tied:FnOk P w K mg base CX0 1 Y.a_tied Y.d_tied zcD zeg:=zdE Y
 have G__law_letter:FnOk P w K mg base CX0 4 Y.a__law_letter Y.d__law_letter zaY zfx:=zhR Y
 have G__law_shuffled:FnOk P w K mg base CX0 2 Y.a__law_shuffled Y.d__law_shuffled zaz zhD:=zkq Y
 have G__law_newest:FnOk P w K mg base CX0 1 Y.a__law_newest Y.d__law_newest za0 zeV:=zhT Y
 have G__law_heard_by:FnOk P w K mg base CX0 10 Y.a__law_heard_by Y.d__law_heard_by zay (zet K):=zhh Y
 refine FL.okQ c_law (λvs H Q E h=>?_) (λcdv A outer s H vs Q E hr h=>?_)
 ·obtain ⟨a,ns,rfl,_⟩:=h;rfl
 ·obtain ⟨b,ns,rfl,hS,hns,q⟩:=h
  refine⟨_,(zf (zw 1 c_law.nd (zj G__law_all (hr.mono (by decide)) Y._law_all.mg Y._law_all.kp Y._law_all.b .nil zo (za (qv 0) zd)))
   (zf (zw 2 c_law.nd (zj G__law_town (hr.mono (by decide)) Y._law_town.mg Y._law_town.kp Y._law_town.b .nil zo (za (qv 1) zd)))
   (zf (zbw PassesOwn.never rfl (zc3 (zM ix_tup (qv 2) zg)) (zr 3 c_law.nd) (zf (zw 4 c_law.nd zd2)
   (zf (zw 5 c_law.nd (zbL zd))
   (zf (zbw PassesOwn.never rfl (zc8 Y.range (za (zz za5 (z5 zcv Y.int zeX (za (zdr (zlb (ziz hr)) (zj G_tied (hr.mono (by decide)) Y.tied.mg Y.tied.kp Y.tied.b .nil zo (za (qv 2) (za (qv 3) zd))) (zbL zd)) zd)) (zz z7 zg (zH (zek rfl) Y.min zed (za zg (za (zH zaH Y.len zco (za (qv 0) zd)) zd))))) zd)) (zr 6 c_law.nd) (zf (zcp 7 c_law.nd (zj G__law_letter (hr.mono (by decide)) Y._law_letter.mg Y._law_letter.kp Y._law_letter.b .nil zo (za (qv 1) (za (qv 2) (za (qv 3) (za (qv 4) zd))))))
   (zk (zaQ (zB (zlV (ziz hr)) (zcI (src:=[none,some 7]) o_law_1 rfl rfl (zcA (qv 5)) (λ_ _ _ _ _=>(zr 0 o_law_1.nd)) (λ_ _ _ _ _=>(zgg (t_w (zpM (zB zaL (zM (zcg (K:=K) rfl) (qv 0) zg) (zM (zcg (K:=K) rfl) (qc 1) zg)) (zot (zB zaL (zM (zcg (K:=K) rfl) (qv 0) zg) (zM (zcg (K:=K) rfl) (qc 1) zg))))))) (λ_ _ _ _ _=>(qv 0))) (zbL zd)) (zk (zcm (zfr PySem.F.plainAttrs_list PySem.F.slot_list_append PySem.F.type_list_append zaS (qv 5) (za (qc 7) zd)))) z8))))
   (zf (zw 8 c_law.nd (zj G__law_shuffled (hr.mono (by decide)) Y._law_shuffled.mg Y._law_shuffled.kp Y._law_shuffled.b .nil zo (za (qv 1) (za (zz ziB (qv 5) (zoO zg9 (qv 5) zi8 (ziZ zg))) zd))))
   (zf (zw 9 c_law.nd (zj G__law_shuffled (hr.mono (by decide)) Y._law_shuffled.mg Y._law_shuffled.kp Y._law_shuffled.b .nil zo (za (qv 1) (za (zj G__law_newest (hr.mono (by decide)) Y._law_newest.mg Y._law_newest.kp Y._law_newest.b .nil zo (za (qv 5) zd)) zd))))
   (zk (zaQ (zB (zoJ (ziz hr)) (zj G__law_heard_by (hr.mono (by decide)) Y._law_heard_by.mg Y._law_heard_by.kp Y._law_heard_by.b .nil zo (za (qv 2) (za (qv 3) (za (qv 8) zd)))) (zj G__law_heard_by (hr.mono (by decide)) Y._law_heard_by.mg Y._law_heard_by.kp Y._law_heard_by.b .nil zo (za (qv 2) (za (qv 3) (za (qv 9) zd))))) (zk (zx zgS)) z8))))))))
   (zk (zx zgS))))),?_⟩
  refine⟨_,rfl,b,ns,rfl,hS,hns,λa H1 ha hH1 s1=>?_⟩
  refine⟨_,rfl,a,0,rfl,hH1,by decide,λv g hs ps lks hds H2 hv T _ _ _ hf hH2 k2=>?_⟩
  obtain⟨pt,us0,rfl,hpt,h0⟩:=zdb hv
  obtain⟨ph,e1,hph⟩:∃ph,us0[1]?=some (.ref ph)/\H2 ph=some (.tup (hs.map V.str)):=by
   obtain⟨pt',us',e,hp',rr,_⟩:=hv.ofT
   cases e
   rw[hpt] at hp';cases hp'
   have hl:1<us0.length:=by rw[rr.1];exact(by decide:1<5)
   obtain⟨ph,e,hph⟩:=zhX (rr.2 1 us0[1] (.tup (hs.map D.str)) (List.getElem?_eq_getElem hl) rfl)
   exact⟨ph,by rw[List.getElem?_eq_getElem hl,e],hph⟩
  have T10:=T.ten
  have npa:∀{c o},H2 c=some (.tup o)->c≠a:=λ{c o} e z=>by obtain⟨_,_,_,e',_⟩:=hH2;rw[z,e'] at e;cases e
  refine⟨_,rfl,pt,us0,1,_,rfl,rfl, .inl (.inl hpt),zI (j:=1) e1,ph,rfl,⟨_, .inl (.inl hph)⟩,?_⟩
  have hS2:∀{H'},Keep a H2 H'->SqL K H' b (ns.map V.int):=λ{H'} k=>Same.seq (λc o e=>k c o (zh e ha) (k2 c o (zh e ha) (s1 c o e))) hS
  refine zaK (zb5 (K:=K) (xs:=hs.map V.str)) (λi σ' H'=>(∃o3 o4 o5 o6 o7 o8 o9,σ'=[some (.ref b),some (.ref a),some (.ref pt),o3,o4,o5,o6,o7,o8,o9])/\Hand H' a (9000+700*i)/\Keep a H2 H') ⟨⟨_,_,_,_,_,_,_,rfl⟩,hH2.mono (by omega),Keep.refl _ _⟩ ?_ ?_ ?_
  ·rintro i σ' H' ⟨_,_,k'⟩
   exact .inl (.inl (k' _ _ (npa hph) hph))
  ·rintro i y σ' H3 hi hy ⟨⟨o3,o4,o5,o6,o7,o8,o9,rfl⟩,hH3,k3⟩
   obtain⟨nm,hnm,rfl⟩:=zoz hy
   have hnm:=List.mem_of_getElem? hnm
   rw[List.length_map] at hi
   have m23:∀c xs,H2 c=some (.tup xs)->H3 c=some (.tup xs):=λc xs e=>k3 _ _ (npa e) e
   have hv3:=zau hv T m23
   refine λd hd=>?_
   have S1:=Same.new (o:= .dK []) hd
   refine⟨few rfl,λll hll=>?_⟩
   have S2:=Same.new (o:= .lst ([]:List V)) hll
   have nda:d≠a:=hH3.ne hd
   have nla:ll≠a:=(hH3.same S1).ne hll
   have nld:d≠ll:=zh zb hll
   have s35:=S1.trans S2
   have hd5:=S2 _ _ (zb (H:=H3) (a:=d) (o:= .dK []))
   have hll5:=zb (H:=upd H3 d (.dK [])) (a:=ll) (o:= .lst ([]:List V))
   have hH5:=hH3.same s35
   have hdH3:H3 d=none:=hd
   have hlH3:H3 ll=none:=zbp S1 hll
   show zj4 _ _ _ _ (upd (upd H3 d (.dK [])) ll (.lst ([]:List V)))
   generalize (upd (upd H3 d (HO.dK [])) ll (HO.lst ([]:List V)))=H5 at *
   refine⟨_,rfl,_,rfl, .ref pt,nm,g,hs,ps,lks,hds,rfl,hv3.same s35,T,λlt ts H6 hlt ht6 tp tsr s6=>?_⟩
   have ets:=zfy T tp tsr
   have tin:∀o∈ts,o∈hs:=λo ho=>zdd T (tp.mem_iff.mp ho)
   refine⟨few rfl,λpe hpe=>?_⟩
   have se:=Same.new (o:= .lst []) hpe
   refine⟨_,_,zjE (se _ _ ht6) (λx hx=>zaj (T.names x (tin x hx))),zhe zb,Nat.le_trans (Nat.min_le_right _ _) (by decide),?_⟩
   have s57:=s6.trans se
   generalize (upd H6 pe (HO.lst []))=H7 at *
   have s37:=s35.trans s57
   have k27:Keep a H2 H7:=k3.trans (Keep.of s37)
   refine .inr ⟨_,rfl,?_⟩
   refine⟨_,rfl, .inl ⟨b,_,rfl, .inl (hS2 k27),_,_,rfl,_,_,rfl,rfl,_,_,rfl,rfl, .inl ⟨by split<;>omega,by split<;>omega⟩,?_⟩⟩
   obtain⟨N,eN,N14,N0⟩:∃N:Nat,((if(!(PyData.list (zu ts)).eqv (.list []))=true then(1:Int)else 0)*(2+if (((ns.map V.int).length:Int)<12)then((ns.map V.int).length:Int)else 12))=(N:Int)/\N<=14/\(0<N->ts≠ []):=by
    cases ts with
    |nil=>exact ⟨0,by rw[show(PyData.list (zu [])).eqv (.list [])=true from rfl];simp,by decide,λz=>absurd z (by decide)⟩
    |cons t0 tr=>
     rw[show(PyData.list (zu (t0::tr))).eqv (.list [])=false by unfold zu;rw[List.map_cons,PyData.eqv];rfl]
     by_cases c:(((ns.map V.int).length:Int)<12)
     ·rw[if_pos c]
      exact⟨2+(ns.map V.int).length,by simp,by omega,λ_ z=>nomatch z⟩
     ·rw[if_neg c]
      exact⟨14,by simp,by decide,λ_ z=>nomatch z⟩
   refine⟨(N:Int),congrArg (λz:Int=> [V.int z]) eN,by omega,by omega,?_⟩
   rw[show((N:Int)).toNat=N from Int.toNat_natCast N]
   have hH7:=hH5.same s57
   refine zaK zcl (λk σ' H'=>(∃kvs us L o6 o7 o8 o9,σ'=[some (.ref b),some (.ref a),some (.ref pt),some (.str nm),some (.ref d),some (.ref ll),o6,o7,o8,o9]/\H' d=some (.dK kvs)/\kvs.length<=k/\(∀x u,z3 kvs (Sum.inr x)=some u->∃i,u= .int i)/\H' ll=some (.lst us)/\LtsI H' nm us L/\L.length<=k/\Uq L/\(∀p∈L,p.1∈hs/\hrR p.1 p.2/\0<p.2.1))/\Hand H' a (9000+700*i+40*k)/\Keep a H3 H') ?_ (λ_ _ _ _=>trivial) ?_ ?_
   ·exact ⟨⟨[],[],[],_,_,_,_,rfl,s57 _ _ hd5,Nat.le_refl _,(λx u z=>by cases z),s57 _ _ hll5, .nil,Nat.le_refl _,(λ_ _ _ _ z=>nomatch z),(λ_ z=>nomatch z)⟩,hH7.mono (by omega),Keep.of s37⟩
   ·rintro k y σ' H8 hk rfl ⟨⟨kvs,us,L,o6,o7,o8,o9,rfl,hd8,kl,ki,hll8,R8,Ll,uq,lok⟩,hH8,k8⟩
    have np3:∀{c o},H3 c=some (.tup o)->c≠a:=λ{c o} e z=>by obtain⟨_,_,_,e',_⟩:=hH3;rw[z,e'] at e;cases e
    have hv8:=zau hv3 T λc xs e=>k8 _ _ (np3 e) e
    have hdue:due hs ps nm≠ []:=by rw[←ets];exact N0 (by omega)
    refine⟨_,rfl,_,rfl,_,rfl,_,rfl,a,d,_, .ref pt,nm,kvs,g,hs,ps,lks,hds,rfl,hH8,by omega,nda,hd8,by omega,ki,hv8,T,hf,hnm,hdue,λlv one r kvs9 H9 hlo hone hrr hpos hd9 kl9 ki9 hH9 k9=>?_⟩
    obtain⟨t9,x9,y9,rfl,ht9,wa9⟩:=id hlo
    have hll9:=k9 _ _ nla (Ne.symm nld) hll8
    have np8:∀{c o},H8 c=some (.tup o)->c≠a:=λ{c o} e z=>by obtain⟨_,_,_,e',_⟩:=hH8;rw[z,e'] at e;cases e
    have m89:∀c xs,H8 c=some (.tup xs)->H9 c=some (.tup xs):=λc xs e=>k9 _ _ (np8 e) (zQ e hd8 (λz=>nomatch z)) e
    have R9:=R8.mono m89
    have ul:=R9.len
    have k39:Keep a H3 H9:=λc o nc e=>k9 c o nc (zh e hdH3) (k8 c o nc e)
    refine⟨_,rfl,ll,rfl,⟨_,SqL.of hll9⟩,?_⟩
    refine zbv (zbX (K:=K) (xs:=us)) (λl' j ys σ' H'=>(∃o0,σ'=[o0,some (.ref t9)])/\(∀v∈ys,v∈us)/\(ys=[]↔∀p∈L.take j,¬(p.1=one/\p.2.1=r.1))/\ys.length<=j/\Same H9 H') ?_ (λl' j ys σ' H' hl' z=>SqL.of (z.2.2.2.2 _ _ hll9)) ?_ ?_
    ·exact λl' hl'=>⟨⟨_,rfl⟩,(λ_ z=>nomatch z),⟨λ_ p hp=>by simp at hp,λ_=>rfl⟩,Nat.le_refl _,Same.new hl'⟩
    ·rintro l' j y0 ys σ' HA hl' hj hy ⟨⟨o0,rfl⟩,ysub,yiff,yl,sA⟩ hlA
     obtain⟨⟨x,r0⟩,ep,t,vx,vy,rfl,ht,wa⟩:=R9.get hy
     have tk:L.take (j+1)=L.take j ++ [(x,r0)]:=by rw[List.take_add_one,ep];rfl
     have htA:=sA _ _ ht
     have ht9A:=sA _ _ ht9
     have no:¬(x=one/\r0.1=r.1)->(ys=[]↔∀p∈L.take (j+1),¬(p.1=one/\p.2.1=r.1)):=λhn=>by
      rw[tk,yiff]
      exact⟨λh p hp=>(List.mem_append.mp hp).elim (h p) λz=>by rw[List.mem_singleton.mp z];exact hn,λh p hp=>h p (List.mem_append_left _ hp)⟩
     refine⟨_,rfl,t,_,0,_,rfl,rfl, .inl (.inl htA),at0,_,rfl,t9,_,0,_,rfl,rfl, .inl (.inl ht9A),at0,rfl,_,rfl,?_⟩
     rw[zbR]
     by_cases c1:x=one
     ·rw[decide_eq_true c1]
      refine zbA rfl ⟨_,rfl,t,_,2,_,rfl,rfl, .inl (.inl htA),zI (j:=2) rfl,_,rfl,t9,_,2,_,rfl,rfl, .inl (.inl ht9A),zI (j:=2) rfl,rfl,_,rfl,?_⟩
      rw[show decide (V.int r0.1=V.int r.1)=decide (r0.1=r.1)from decide_eq_decide.mpr ⟨λz=>by injection z,λz=>by rw[z]⟩]
      by_cases c2:r0.1=r.1
      ·rw[decide_eq_true c2]
       refine zbA rfl ⟨_,rfl,hlA,zm (by omega),⟨_,rfl⟩,λv hv=>(List.mem_append.mp hv).elim (ysub v) λz=>by rw[List.mem_singleton.mp z];exact List.mem_of_getElem? hy,⟨λz=>by simp at z,λz=>absurd ⟨c1,c2⟩ (z (x,r0) (by rw[tk];exact List.mem_append_right _ (List.mem_singleton.mpr rfl)))⟩,by rw[List.length_append];show _+1<=_;omega,λc o e=>by rw[ze (zh e hl')];exact sA _ _ e⟩
      ·rw[decide_eq_false c2]
       exact zbM rfl ⟨hlA,⟨_,rfl⟩,ysub,no λz=>c2 z.2,by omega,sA⟩
     ·rw[decide_eq_false c1]
      exact zbM rfl (zbM rfl ⟨hlA,⟨_,rfl⟩,ysub,no λz=>c1 z.1,by omega,sA⟩)
    rintro lC ys σ' HA hlC' ⟨⟨o0,rfl⟩,ysub,yiff,yl,sA⟩ hlC
    rw[ul,List.take_length] at yiff
    refine⟨few rfl,λpe2 hpe2=>?_⟩
    have se2:=Same.new (o:= .lst []) hpe2
    have s9B:=sA.trans se2
    have hnn:=T.names nm hnm
    obtain⟨ds,dl,dt⟩:=zlU (H:=upd HA pe2 (.lst [])) (zs:=ys) λu hu=>by
     obtain⟨p,hp,lo⟩:=R9.mem (ysub u hu)
     obtain⟨h1,h2,_⟩:=lok p hp
     exact(lo.mono λc xs e=>s9B _ _ e).tr (T.names _ h1) hnn h2.wm
    refine⟨_,_,Tr.lst (se2 _ _ hlC) dl dt,zhe zb,Nat.le_trans (Nat.min_le_right _ _) (by decide),_,rfl,?_⟩
    have hllB:=s9B _ _ hll9
    have hdB:=s9B _ _ hd9
    have RB:=R9.mono λc xs e=>s9B _ _ e
    have hHB:=hH9.same s9B
    have hloB:=hlo.mono λc xs e=>s9B _ _ e
    have kB:Keep a H3 (upd HA pe2 (.lst [])):=k39.trans (Keep.of s9B)
    generalize (upd HA pe2 (HO.lst []))=HB at *
    cases ys with
    |cons y0 yr=>
     cases ds with
     |nil=>cases dl
     |cons d0 dr=>
      rw[show(PyData.list (d0::dr)).eqv (.list [])=false by rw[PyData.eqv];rfl]
      exact zbM rfl ⟨⟨kvs9,us,L,_,_,_,_,rfl,hdB,by omega,ki9,hllB,RB,by omega,uq,lok⟩,hHB.mono (by push_cast;omega),kB⟩
    |nil=>
     cases ds with
     |cons _ _=>cases dl
     |nil=>
      rw[show(PyData.list []).eqv (.list [])=true from rfl]
      refine zbA rfl ⟨_,rfl, .inl ⟨rfl,_,SqL.of hllB⟩,_,rfl,ll,us,_,rfl,rfl,hllB,zm (by omega),?_⟩
      have mU:∀c xs,HB c=some (.tup xs)->upd HB ll (.lst (us ++ [.ref t9])) c=some (.tup xs):=λc xs e=>by rw[ze (zQ e hllB (λz=>nomatch z))];exact e
      refine⟨⟨kvs9,us ++ [.ref t9],L ++ [(one,r)],_,_,_,_,rfl,by rw[ze nld];exact hdB,by omega,ki9,zb,(RB.mono mU).append (.cons (hloB.mono mU) .nil),by rw[List.length_append];show _+1<=_;omega,Uq.snoc uq (yiff.mp rfl),λp hp=>?_⟩,(hHB.updNe nla).mono (by push_cast;omega),λc o nc e=>by rw[ze (zh e hlH3)];exact kB c o nc e⟩
      rcases List.mem_append.mp hp with hp|hp
      ·exact lok p hp
      ·rw[List.mem_singleton.mp hp];exact⟨hone,hrr,hpos⟩
   ·rintro σ' H8 ⟨⟨kvs,us,L,o6,o7,o8,o9,rfl,hd8,kl,ki,hll8,R8,Ll,uq,lok⟩,hH8,k8⟩
    have ul:=R8.len
    have hnn:=T.names nm hnm
    have np3:∀{c o},H3 c=some (.tup o)->c≠a:=λ{c o} e z=>by obtain⟨_,_,_,e',_⟩:=hH3;rw[z,e'] at e;cases e
    have np8:∀{c o},H8 c=some (.tup o)->c≠a:=λ{c o} e z=>by obtain⟨_,_,_,e',_⟩:=hH8;rw[z,e'] at e;cases e
    have trq:∀{H':Hp} {u:V},u∈us->(∀c xs,H8 c=some (.tup xs)->H' c=some (.tup xs))->∃d,Tr H' u d:=λ{H' u} hu m=>by
     obtain⟨p,hp,lo⟩:=R8.mem hu
     obtain⟨h1,h2,_⟩:=lok p hp
     exact(lo.mono m).tr (T.names _ h1) hnn h2.wm
    refine⟨_,rfl,_,rfl,_,rfl,_,rfl,ll,_,rfl,SqL.of hll8,λp1 hp1=>?_⟩
    have ec:zdn us none (some 3)=us.take 3:=zho (n:=3)
    rw[ec] at *
    have S1':=Same.new (o:= .lst (us.take 3)) hp1
    refine⟨ll,p1,_,_,rfl,rfl,S1' _ _ hll8,zb,Nat.le_of_lt (zm (by rw[List.length_take];omega)),λl4 hl4=>?_⟩
    have S2':=Same.new (o:= .lst (us ++us.take 3)) hl4
    have s8A:=S1'.trans S2'
    have hHA:=hH8.same s8A
    refine⟨a,l4,_,us ++us.take 3,rfl,hHA,by omega,zb,by rw[List.length_append,List.length_take];omega,λu hu H' m=>trq ((List.mem_append.mp hu).elim id List.mem_of_mem_take) λc xs e=>m _ _ (s8A _ _ e),λlm um HB hlm hlm' pm hHB kB=>?_⟩
    have kAB:Keep a H8 HB:=(Keep.of s8A).trans kB
    have m8B:∀c xs,H8 c=some (.tup xs)->HB c=some (.tup xs):=λc xs e=>kAB _ _ (np8 e) e
    have nlm:lm≠a:=hHA.ne hlm
    have hllB:=kAB _ _ nla hll8
    obtain⟨Lm,Rm,pLm⟩:=LtsI.perm pm ((R8.mono m8B).append ((R8.mono m8B).take 3))
    refine⟨_,rfl,_,rfl,ll,us,nm,L,rfl,hllB,R8.mono m8B,by omega,λln un Ln HC hln hln' Rn sub cov lnl kC=>?_⟩
    have hHC:Hand HC a (9000+700*i+40*N+60):=by
     obtain⟨x,m,t,e,r⟩:=hHB
     exact⟨x,m,t,kC _ _ e,r⟩
    have unl:=Rn.len
    refine⟨a,ln,_,un,rfl,hHC,by omega,hln',by omega,λu hu H' m=>?_,λlf uf HD hlf hlf' pf hHD kD=>?_⟩
    ·obtain ⟨p,hp,lo⟩:=Rn.mem hu
     obtain⟨h1,h2,_⟩:=lok p (sub p hp)
     exact(lo.mono m).tr (T.names _ h1) hnn h2.wm
    have npC:∀{c o},HC c=some (.tup o)->c≠a:=λ{c o} e z=>by obtain⟨_,_,_,e',_⟩:=hHC;rw[z,e'] at e;cases e
    have mCD:∀c xs,HC c=some (.tup xs)->HD c=some (.tup xs):=λc xs e=>kD _ _ (npC e) e
    have mBD:∀c xs,HB c=some (.tup xs)->HD c=some (.tup xs):=λc xs e=>mCD _ _ (kC _ _ e)
    obtain⟨Lf,Rf,pLf⟩:=LtsI.perm pf Rn
    have hlmD:=kD _ _ nlm (kC _ _ hlm')
    have hvD:=zau hv3 T λc xs e=>mBD _ _ (m8B _ _ (k8 _ _ (np3 e) e))
    have mm:∀p,p∈Lm↔p∈L:=λp=>by
     rw[pLm.mem_iff,List.mem_append]
     exact⟨λh=>h.elim id List.mem_of_mem_take, .inl⟩
    have mf:∀p,p∈Lf↔p∈Ln:=λp=>pLf.mem_iff
    have lenm:Lm.length<=60:=by rw[pLm.length_eq,List.length_append,List.length_take];omega
    have lenf:Lf.length<=60:=by rw[pLf.length_eq];omega
    refine⟨_,rfl,_,rfl,_,rfl, .ref pt,nm,lm,um,Lm,g,hs,ps,lks,hds,rfl,hlmD,Rm.mono mBD,λp hp=>⟨(lok p ((mm p).mp hp)).1,(lok p ((mm p).mp hp)).2.1⟩,lenm,hvD,T,hf,hnm,λrv1 b1 HE e1 be1 tr1 sE=>?_⟩
    refine⟨_,rfl,_,rfl,_,rfl, .ref pt,nm,lf,uf,Lf,g,hs,ps,lks,hds,rfl,sE _ _ hlf',(Rf.mono mCD).mono (λc xs e=>sE _ _ e),λp hp=>⟨(lok p (sub p ((mf p).mp hp))).1,(lok p (sub p ((mf p).mp hp))).2.1⟩,lenf,hvD.same sE,T,hf,hnm,λrv2 b2 HF e2 be2 tr2 sF=>?_⟩
    have lk:∀x,zt (zT Lm) x=zt (zT Lf) x:=zkC uq (λx n b h=>(lok _ h).2.2) mm (λp hp=>sub p ((mf p).mp hp)) λx n b h=>by
     obtain⟨n',b',h1,h2⟩:=cov x n b h
     exact⟨n',b',(mf _).mpr h1,h2⟩
    have ndm:((zT Lm).map (·.1)).Nodup:=zeT Lm [] List.nodup_nil
    have ndf:((zT Lf).map (·.1)).Nodup:=zeT Lf [] List.nodup_nil
    have eb:b1=b2:=by
     by_cases c:nm=g
     ·rw[e1 c,e2 c]
     ·refine zkr (λe=>?_) (λe he e' he' z=>?_) (be1 c) (be2 c)
      ·rw[zdg ndm,zdg ndf]
       exact⟨λ⟨x,r,h,o⟩=>⟨x,r,by rw[←lk];exact h,o⟩,λ⟨x,r,h,o⟩=>⟨x,r,by rw[lk];exact h,o⟩⟩
      ·refine znE (zfb ndm λp hp=>?_) he he' z
       have hl:=zcG ndm hp
       rcases zcH Lm p.1 with⟨h1,_⟩|⟨n,b,h1,_,h2,_⟩
       ·rw[hl] at h1;cases h1
       ·rw[hl] at h1
        have:p.2=(n,b):=Option.some.inj h1
        rw[this];exact(lok _ ((mm _).mp h2)).2.1
    subst eb
    have er:zf0 (zA hs hds nm) b1 (due hs ps nm) (zT Lm)=zf0 (zA hs hds nm) b1 (due hs ps nm) (zT Lf):=by
     unfold zf0
     rw[show(λo=>zk5 (zt (zT Lm) o))=λo=>zk5 (zt (zT Lf) o)from funext λo=>by rw[lk]]
    rw[er] at tr1
    refine⟨_,_,TrX.same tr1 sF,tr2,Nat.le_trans (Nat.min_le_left _ _) zkf,_,rfl,zbM ?_ ⟨⟨_,_,_,_,_,_,_,rfl⟩,?_,?_⟩⟩
    ·rw[PySem.SeqAt.eqv_refl _ tr2.can];rfl
    ·exact ((hHD.same sE).same sF).mono (by push_cast;omega)
    ·exact λc o nc e=>sF _ _ (sE _ _ (kD c o nc (kC _ _ (kAB c o nc (k8 c o nc (k3 c o nc e))))))
  ·rintro σ' H3 ⟨⟨o3,o4,o5,o6,o7,o8,o9,rfl⟩,hH3,k3⟩
   exact q H3
end
theorem walk{l:PySem.W.OpenLaw}{q:Program}{loose:List Str}{XP:(Str->Option Value)->Heap->Prop}{YP:World->Heap->Prop}{d:DefRec}{K:Params->PySem.W.Frag}(hn:l.most=some 63)(hdf:d.params.defaults=[])
 (hY:∀(w:World) (h:Heap),YP w h->(K w.params).In h)
 (F:∀(w:World) (mg:Str->Option Value) (fa:Addr) (h:Heap),(K w.params).In h->h.Ns mainGlobals mg->mg d.name=some (.ref fa)->
   ∃fd:FuncData,(∀(s:Shared) (u:Value),BindsTo s fd ⟨[u],[]⟩ [("_law_script",u)])/\∀base:Heap,(K w.params).In base->base.Ns mainGlobals mg->FnOk l.prog w (K w.params) mg base CX0 11 fa fd ["_law_script"] (zjK (K w.params))):
 PySem.W.WalkO q loose XP YP l.row.toRowW d [] (λf vs=>PySem.call f vs):=
 L2.walk_of (n:=63) (k:=11) (x:="_law_script") (CX:=λ_=>CX0) (sp:=λw=>zjK (K w.params)) hn (by decide) hdf ⟨rfl,by decide,by decide,rfl⟩ hY F (λ_ _ a ns hl _ hS=>⟨a,ns,rfl,hS,hl,λ_=>rfl⟩) λ_ _ _ _ _ z=>z
theorem all_mk{l:PySem.W.OpenLaw}{w:World}{K:PySem.W.Frag}{h:Heap}{mg:Str->Option Value}{fa:Addr}(X:K.In h)(G:h.Ns mainGlobals mg)(hfa:mg "law"=some (.ref fa))
 {C_House:Addr} (aC_House:PySem.W.nsIn K mainGlobals "House"=some (some (.ref C_House))) (pg_House:PySem.W.plainGet K C_House Str.empty=true) (hd_House:PySem.W.hasDictIn K C_House=true) (po_House:PySem.W.plainOver K C_House=true) (sa_House:PySem.W.findIn K (.ref C_House) "__setattr__"=some (some (.builtin "object.__setattr__"))) (mk_House:PySem.W.makesIn K C_House=true) (kc_House:PySem.W.keepIn K (.ref C_House)=true) (n_House_place:PySem.W.findIn K (.ref C_House) "place"=some none) (n_House_name:PySem.W.findIn K (.ref C_House) "name"=some none) (n_House_hearings:PySem.W.findIn K (.ref C_House) "hearings"=some none) (n_House_tellings:PySem.W.findIn K (.ref C_House) "tellings"=some none) (n_House_going:PySem.W.findIn K (.ref C_House) "going"=some none) (n_House_times:PySem.W.findIn K (.ref C_House) "times"=some none)
 {f1:Addr} {od1 an1:Option Addr} {sl1:Array (Option Value)} {oc1 kV1 dc1 pm1 cd1 ct1:Value}
 {dt1:Addr} {odd1:Option Addr} {nd1:Nat} {sld1:Array (Option Value)}
 (a1:PySem.W.nsIn K mainGlobals "holds"=some (some (.ref f1))) (l1:K.lookup f1=some ⟨oc1,od1, .func (PySem.W.fnOf "holds" "holds" (zq zdi) (zp zdi) (zc zdi) (.ref dt1) kV1 dc1 pm1 an1 cd1 ct1),sl1⟩) (c1:PySem.W.codeIn K cd1 "holds"=true) (k1:PySem.W.keepIn K (.ref f1)=true)
 (ld1:K.lookup dt1=some ⟨.type "tuple",odd1, .seq #[.none] nd1,sld1⟩)
 {f2:Addr} {od2 an2:Option Addr} {sl2:Array (Option Value)} {oc2 kV2 dc2 pm2 cd2 ct2:Value}
 {dt2:Addr} {odd2:Option Addr} {nd2:Nat} {sld2:Array (Option Value)}
 (a2:PySem.W.nsIn K mainGlobals "all_hold"=some (some (.ref f2))) (l2:K.lookup f2=some ⟨oc2,od2, .func (PySem.W.fnOf "all_hold" "all_hold" (zq zbx) (zp zbx) (zc zbx) (.ref dt2) kV2 dc2 pm2 an2 cd2 ct2),sl2⟩) (c2:PySem.W.codeIn K cd2 "all_hold"=true) (k2:PySem.W.keepIn K (.ref f2)=true)
 (ld2:K.lookup dt2=some ⟨.type "tuple",odd2, .seq #[.none] nd2,sld2⟩)
 {f3:Addr} {od3 an3:Option Addr} {sl3:Array (Option Value)} {oc3 kV3 dc3 pm3 cd3 ct3:Value}
 (a3:PySem.W.nsIn K mainGlobals "likings_of"=some (some (.ref f3))) (l3:K.lookup f3=some ⟨oc3,od3, .func (PySem.W.fnOf "likings_of" "likings_of" (zq zaR) (zp zaR) (zc zaR) .none kV3 dc3 pm3 an3 cd3 ct3),sl3⟩) (c3:PySem.W.codeIn K cd3 "likings_of"=true) (k3:PySem.W.keepIn K (.ref f3)=true)
 {f4:Addr} {od4 an4:Option Addr} {sl4:Array (Option Value)} {oc4 kV4 dc4 pm4 cd4 ct4:Value}
 (a4:PySem.W.nsIn K mainGlobals "hands_of"=some (some (.ref f4))) (l4:K.lookup f4=some ⟨oc4,od4, .func (PySem.W.fnOf "hands_of" "hands_of" (zq zby) (zp zby) (zc zby) .none kV4 dc4 pm4 an4 cd4 ct4),sl4⟩) (c4:PySem.W.codeIn K cd4 "hands_of"=true) (k4:PySem.W.keepIn K (.ref f4)=true)
 {f5:Addr} {od5 an5:Option Addr} {sl5:Array (Option Value)} {oc5 kV5 dc5 pm5 cd5 ct5:Value}
 (a5:PySem.W.nsIn K mainGlobals "tied"=some (some (.ref f5))) (l5:K.lookup f5=some ⟨oc5,od5, .func (PySem.W.fnOf "tied" "tied" (zq zc2) (zp zc2) (zc zc2) .none kV5 dc5 pm5 an5 cd5 ct5),sl5⟩) (c5:PySem.W.codeIn K cd5 "tied"=true) (k5:PySem.W.keepIn K (.ref f5)=true)
 {f6:Addr} {od6 an6:Option Addr} {sl6:Array (Option Value)} {oc6 kV6 dc6 pm6 cd6 ct6:Value}
 (a6:PySem.W.nsIn K mainGlobals "marks_behind"=some (some (.ref f6))) (l6:K.lookup f6=some ⟨oc6,od6, .func (PySem.W.fnOf "marks_behind" "marks_behind" (zq z4) (zp z4) (zc z4) .none kV6 dc6 pm6 an6 cd6 ct6),sl6⟩) (c6:PySem.W.codeIn K cd6 "marks_behind"=true) (k6:PySem.W.keepIn K (.ref f6)=true)
 {f7:Addr} {od7 an7:Option Addr} {sl7:Array (Option Value)} {oc7 kV7 dc7 pm7 cd7 ct7:Value}
 (a7:PySem.W.nsIn K mainGlobals "handed"=some (some (.ref f7))) (l7:K.lookup f7=some ⟨oc7,od7, .func (PySem.W.fnOf "handed" "handed" (zq zcy) (zp zcy) (zc zcy) .none kV7 dc7 pm7 an7 cd7 ct7),sl7⟩) (c7:PySem.W.codeIn K cd7 "handed"=true) (k7:PySem.W.keepIn K (.ref f7)=true)
 {f8:Addr} {od8 an8:Option Addr} {sl8:Array (Option Value)} {oc8 kV8 dc8 pm8 cd8 ct8:Value}
 (a8:PySem.W.nsIn K mainGlobals "worth"=some (some (.ref f8))) (l8:K.lookup f8=some ⟨oc8,od8, .func (PySem.W.fnOf "worth" "worth" (zq zc9) (zp zc9) (zc zc9) .none kV8 dc8 pm8 an8 cd8 ct8),sl8⟩) (c8:PySem.W.codeIn K cd8 "worth"=true) (k8:PySem.W.keepIn K (.ref f8)=true)
 {f9:Addr} {od9 an9:Option Addr} {sl9:Array (Option Value)} {oc9 kV9 dc9 pm9 cd9 ct9:Value}
 (a9:PySem.W.nsIn K mainGlobals "liking_key"=some (some (.ref f9))) (l9:K.lookup f9=some ⟨oc9,od9, .func (PySem.W.fnOf "liking_key" "liking_key" (zq zaW) (zp zaW) (zc zaW) .none kV9 dc9 pm9 an9 cd9 ct9),sl9⟩) (c9:PySem.W.codeIn K cd9 "liking_key"=true) (k9:PySem.W.keepIn K (.ref f9)=true)
 {f10:Addr} {od10 an10:Option Addr} {sl10:Array (Option Value)} {oc10 kV10 dc10 pm10 cd10 ct10:Value}
 (a10:PySem.W.nsIn K mainGlobals "most_liked"=some (some (.ref f10))) (l10:K.lookup f10=some ⟨oc10,od10, .func (PySem.W.fnOf "most_liked" "most_liked" (zq zaw) (zp zaw) (zc zaw) .none kV10 dc10 pm10 an10 cd10 ct10),sl10⟩) (c10:PySem.W.codeIn K cd10 "most_liked"=true) (k10:PySem.W.keepIn K (.ref f10)=true)
 {f11:Addr} {od11 an11:Option Addr} {sl11:Array (Option Value)} {oc11 kV11 dc11 pm11 cd11 ct11:Value}
 (a11:PySem.W.findIn K (.ref C_House) "__init__"=some (some (.ref f11))) (i11:PySem.W.isFn K (.ref f11)=true) (l11:K.lookup f11=some ⟨oc11,od11, .func (PySem.W.fnOf "__init__" "House.__init__" (zq zZ) (zp zZ) (zc zZ) .none kV11 dc11 pm11 an11 cd11 ct11),sl11⟩) (c11:PySem.W.codeIn K cd11 "House.__init__"=true) (k11:PySem.W.keepIn K (.ref f11)=true)
 {f12:Addr} {od12 an12:Option Addr} {sl12:Array (Option Value)} {oc12 kV12 dc12 pm12 cd12 ct12:Value}
 (a12:PySem.W.findIn K (.ref C_House) "way"=some (some (.ref f12))) (i12:PySem.W.isFn K (.ref f12)=true) (l12:K.lookup f12=some ⟨oc12,od12, .func (PySem.W.fnOf "way" "House.way" (zq zbf) (zp zbf) (zc zbf) .none kV12 dc12 pm12 an12 cd12 ct12),sl12⟩) (c12:PySem.W.codeIn K cd12 "House.way"=true) (k12:PySem.W.keepIn K (.ref f12)=true)
 {f13:Addr} {od13 an13:Option Addr} {sl13:Array (Option Value)} {oc13 kV13 dc13 pm13 cd13 ct13:Value}
 (a13:PySem.W.findIn K (.ref C_House) "marks"=some (some (.ref f13))) (i13:PySem.W.isFn K (.ref f13)=true) (l13:K.lookup f13=some ⟨oc13,od13, .func (PySem.W.fnOf "marks" "House.marks" (zq zaC) (zp zaC) (zc zaC) .none kV13 dc13 pm13 an13 cd13 ct13),sl13⟩) (c13:PySem.W.codeIn K cd13 "House.marks"=true) (k13:PySem.W.keepIn K (.ref f13)=true)
 {f14:Addr} {od14 an14:Option Addr} {sl14:Array (Option Value)} {oc14 kV14 dc14 pm14 cd14 ct14:Value}
 (a14:PySem.W.findIn K (.ref C_House) "heard"=some (some (.ref f14))) (i14:PySem.W.isFn K (.ref f14)=true) (l14:K.lookup f14=some ⟨oc14,od14, .func (PySem.W.fnOf "heard" "House.heard" (zq zaG) (zp zaG) (zc zaG) .none kV14 dc14 pm14 an14 cd14 ct14),sl14⟩) (c14:PySem.W.codeIn K cd14 "House.heard"=true) (k14:PySem.W.keepIn K (.ref f14)=true)
 {f15:Addr} {od15 an15:Option Addr} {sl15:Array (Option Value)} {oc15 kV15 dc15 pm15 cd15 ct15:Value}
 (a15:PySem.W.findIn K (.ref C_House) "begin"=some (some (.ref f15))) (i15:PySem.W.isFn K (.ref f15)=true) (l15:K.lookup f15=some ⟨oc15,od15, .func (PySem.W.fnOf "begin" "House.begin" (zq zaE) (zp zaE) (zc zaE) .none kV15 dc15 pm15 an15 cd15 ct15),sl15⟩) (c15:PySem.W.codeIn K cd15 "House.begin"=true) (k15:PySem.W.keepIn K (.ref f15)=true)
 {f16:Addr} {od16 an16:Option Addr} {sl16:Array (Option Value)} {oc16 kV16 dc16 pm16 cd16 ct16:Value}
 (a16:PySem.W.findIn K (.ref C_House) "hear"=some (some (.ref f16))) (i16:PySem.W.isFn K (.ref f16)=true) (l16:K.lookup f16=some ⟨oc16,od16, .func (PySem.W.fnOf "hear" "House.hear" (zq zaU) (zp zaU) (zc zaU) .none kV16 dc16 pm16 an16 cd16 ct16),sl16⟩) (c16:PySem.W.codeIn K cd16 "House.hear"=true) (k16:PySem.W.keepIn K (.ref f16)=true)
 {f17:Addr} {od17 an17:Option Addr} {sl17:Array (Option Value)} {oc17 kV17 dc17 pm17 cd17 ct17:Value}
 (a17:PySem.W.findIn K (.ref C_House) "choose"=some (some (.ref f17))) (i17:PySem.W.isFn K (.ref f17)=true) (l17:K.lookup f17=some ⟨oc17,od17, .func (PySem.W.fnOf "choose" "House.choose" (zq zak) (zp zak) (zc zak) .none kV17 dc17 pm17 an17 cd17 ct17),sl17⟩) (c17:PySem.W.codeIn K cd17 "House.choose"=true) (k17:PySem.W.keepIn K (.ref f17)=true)
 {f18:Addr} {od18 an18:Option Addr} {sl18:Array (Option Value)} {oc18 kV18 dc18 pm18 cd18 ct18:Value}
 (a18:PySem.W.findIn K (.ref C_House) "open_ways"=some (some (.ref f18))) (i18:PySem.W.isFn K (.ref f18)=true) (l18:K.lookup f18=some ⟨oc18,od18, .func (PySem.W.fnOf "open_ways" "House.open_ways" (zq zU) (zp zU) (zc zU) .none kV18 dc18 pm18 an18 cd18 ct18),sl18⟩) (c18:PySem.W.codeIn K cd18 "House.open_ways"=true) (k18:PySem.W.keepIn K (.ref f18)=true)
 {f19:Addr} {od19 an19:Option Addr} {sl19:Array (Option Value)} {oc19 kV19 dc19 pm19 cd19 ct19:Value}
 (a19:PySem.W.findIn K (.ref C_House) "go_by"=some (some (.ref f19))) (i19:PySem.W.isFn K (.ref f19)=true) (l19:K.lookup f19=some ⟨oc19,od19, .func (PySem.W.fnOf "go_by" "House.go_by" (zq zaB) (zp zaB) (zc zaB) .none kV19 dc19 pm19 an19 cd19 ct19),sl19⟩) (c19:PySem.W.codeIn K cd19 "House.go_by"=true) (k19:PySem.W.keepIn K (.ref f19)=true)
 {f20:Addr} {od20 an20:Option Addr} {sl20:Array (Option Value)} {oc20 kV20 dc20 pm20 cd20 ct20:Value}
 (a20:PySem.W.findIn K (.ref C_House) "offer"=some (some (.ref f20))) (i20:PySem.W.isFn K (.ref f20)=true) (l20:K.lookup f20=some ⟨oc20,od20, .func (PySem.W.fnOf "offer" "House.offer" (zq zaI) (zp zaI) (zc zaI) .none kV20 dc20 pm20 an20 cd20 ct20),sl20⟩) (c20:PySem.W.codeIn K cd20 "House.offer"=true) (k20:PySem.W.keepIn K (.ref f20)=true)
 {f21:Addr} {od21 an21:Option Addr} {sl21:Array (Option Value)} {oc21 kV21 dc21 pm21 cd21 ct21:Value}
 (a21:PySem.W.findIn K (.ref C_House) "letters"=some (some (.ref f21))) (i21:PySem.W.isFn K (.ref f21)=true) (l21:K.lookup f21=some ⟨oc21,od21, .func (PySem.W.fnOf "letters" "House.letters" (zq zac) (zp zac) (zc zac) .none kV21 dc21 pm21 an21 cd21 ct21),sl21⟩) (c21:PySem.W.codeIn K cd21 "House.letters"=true) (k21:PySem.W.keepIn K (.ref f21)=true)
 {f22:Addr} {od22 an22:Option Addr} {sl22:Array (Option Value)} {oc22 kV22 dc22 pm22 cd22 ct22:Value}
 (a22:PySem.W.nsIn K mainGlobals "_law_hand"=some (some (.ref f22))) (l22:K.lookup f22=some ⟨oc22,od22, .func (PySem.W.fnOf "_law_hand" "_law_hand" (zq zbb) (zp zbb) (zc zbb) .none kV22 dc22 pm22 an22 cd22 ct22),sl22⟩) (c22:PySem.W.codeIn K cd22 "_law_hand"=true) (k22:PySem.W.keepIn K (.ref f22)=true)
 {f23:Addr} {od23 an23:Option Addr} {sl23:Array (Option Value)} {oc23 kV23 dc23 pm23 cd23 ct23:Value}
 (a23:PySem.W.nsIn K mainGlobals "_law_all"=some (some (.ref f23))) (l23:K.lookup f23=some ⟨oc23,od23, .func (PySem.W.fnOf "_law_all" "_law_all" (zq zbz) (zp zbz) (zc zbz) .none kV23 dc23 pm23 an23 cd23 ct23),sl23⟩) (c23:PySem.W.codeIn K cd23 "_law_all"=true) (k23:PySem.W.keepIn K (.ref f23)=true)
 {f24:Addr} {od24 an24:Option Addr} {sl24:Array (Option Value)} {oc24 kV24 dc24 pm24 cd24 ct24:Value}
 (a24:PySem.W.nsIn K mainGlobals "_law_take"=some (some (.ref f24))) (l24:K.lookup f24=some ⟨oc24,od24, .func (PySem.W.fnOf "_law_take" "_law_take" (zq zbd) (zp zbd) (zc zbd) .none kV24 dc24 pm24 an24 cd24 ct24),sl24⟩) (c24:PySem.W.codeIn K cd24 "_law_take"=true) (k24:PySem.W.keepIn K (.ref f24)=true)
 {f25:Addr} {od25 an25:Option Addr} {sl25:Array (Option Value)} {oc25 kV25 dc25 pm25 cd25 ct25:Value}
 (a25:PySem.W.nsIn K mainGlobals "_law_pick"=some (some (.ref f25))) (l25:K.lookup f25=some ⟨oc25,od25, .func (PySem.W.fnOf "_law_pick" "_law_pick" (zq za9) (zp za9) (zc za9) .none kV25 dc25 pm25 an25 cd25 ct25),sl25⟩) (c25:PySem.W.codeIn K cd25 "_law_pick"=true) (k25:PySem.W.keepIn K (.ref f25)=true)
 {f26:Addr} {od26 an26:Option Addr} {sl26:Array (Option Value)} {oc26 kV26 dc26 pm26 cd26 ct26:Value}
 (a26:PySem.W.nsIn K mainGlobals "_law_names"=some (some (.ref f26))) (l26:K.lookup f26=some ⟨oc26,od26, .func (PySem.W.fnOf "_law_names" "_law_names" (zq zav) (zp zav) (zc zav) .none kV26 dc26 pm26 an26 cd26 ct26),sl26⟩) (c26:PySem.W.codeIn K cd26 "_law_names"=true) (k26:PySem.W.keepIn K (.ref f26)=true)
 {f27:Addr} {od27 an27:Option Addr} {sl27:Array (Option Value)} {oc27 kV27 dc27 pm27 cd27 ct27:Value}
 (a27:PySem.W.nsIn K mainGlobals "_law_cond"=some (some (.ref f27))) (l27:K.lookup f27=some ⟨oc27,od27, .func (PySem.W.fnOf "_law_cond" "_law_cond" (zq zbg) (zp zbg) (zc zbg) .none kV27 dc27 pm27 an27 cd27 ct27),sl27⟩) (c27:PySem.W.codeIn K cd27 "_law_cond"=true) (k27:PySem.W.keepIn K (.ref f27)=true)
 {f28:Addr} {od28 an28:Option Addr} {sl28:Array (Option Value)} {oc28 kV28 dc28 pm28 cd28 ct28:Value}
 (a28:PySem.W.nsIn K mainGlobals "_law_conds"=some (some (.ref f28))) (l28:K.lookup f28=some ⟨oc28,od28, .func (PySem.W.fnOf "_law_conds" "_law_conds" (zq zat) (zp zat) (zc zat) .none kV28 dc28 pm28 an28 cd28 ct28),sl28⟩) (c28:PySem.W.codeIn K cd28 "_law_conds"=true) (k28:PySem.W.keepIn K (.ref f28)=true)
 {f29:Addr} {od29 an29:Option Addr} {sl29:Array (Option Value)} {oc29 kV29 dc29 pm29 cd29 ct29:Value}
 (a29:PySem.W.nsIn K mainGlobals "_law_likings"=some (some (.ref f29))) (l29:K.lookup f29=some ⟨oc29,od29, .func (PySem.W.fnOf "_law_likings" "_law_likings" (zq zam) (zp zam) (zc zam) .none kV29 dc29 pm29 an29 cd29 ct29),sl29⟩) (c29:PySem.W.codeIn K cd29 "_law_likings"=true) (k29:PySem.W.keepIn K (.ref f29)=true)
 {f30:Addr} {od30 an30:Option Addr} {sl30:Array (Option Value)} {oc30 kV30 dc30 pm30 cd30 ct30:Value}
 (a30:PySem.W.nsIn K mainGlobals "_law_hands"=some (some (.ref f30))) (l30:K.lookup f30=some ⟨oc30,od30, .func (PySem.W.fnOf "_law_hands" "_law_hands" (zq zaT) (zp zaT) (zc zaT) .none kV30 dc30 pm30 an30 cd30 ct30),sl30⟩) (c30:PySem.W.codeIn K cd30 "_law_hands"=true) (k30:PySem.W.keepIn K (.ref f30)=true)
 {f31:Addr} {od31 an31:Option Addr} {sl31:Array (Option Value)} {oc31 kV31 dc31 pm31 cd31 ct31:Value}
 (a31:PySem.W.nsIn K mainGlobals "_law_ties"=some (some (.ref f31))) (l31:K.lookup f31=some ⟨oc31,od31, .func (PySem.W.fnOf "_law_ties" "_law_ties" (zq zbe) (zp zbe) (zc zbe) .none kV31 dc31 pm31 an31 cd31 ct31),sl31⟩) (c31:PySem.W.codeIn K cd31 "_law_ties"=true) (k31:PySem.W.keepIn K (.ref f31)=true)
 {f32:Addr} {od32 an32:Option Addr} {sl32:Array (Option Value)} {oc32 kV32 dc32 pm32 cd32 ct32:Value}
 (a32:PySem.W.nsIn K mainGlobals "_law_town"=some (some (.ref f32))) (l32:K.lookup f32=some ⟨oc32,od32, .func (PySem.W.fnOf "_law_town" "_law_town" (zq zaq) (zp zaq) (zc zaq) .none kV32 dc32 pm32 an32 cd32 ct32),sl32⟩) (c32:PySem.W.codeIn K cd32 "_law_town"=true) (k32:PySem.W.keepIn K (.ref f32)=true)
 {f33:Addr} {od33 an33:Option Addr} {sl33:Array (Option Value)} {oc33 kV33 dc33 pm33 cd33 ct33:Value}
 (a33:PySem.W.nsIn K mainGlobals "_law_real_way"=some (some (.ref f33))) (l33:K.lookup f33=some ⟨oc33,od33, .func (PySem.W.fnOf "_law_real_way" "_law_real_way" (zq zV) (zp zV) (zc zV) .none kV33 dc33 pm33 an33 cd33 ct33),sl33⟩) (c33:PySem.W.codeIn K cd33 "_law_real_way"=true) (k33:PySem.W.keepIn K (.ref f33)=true)
 {f34:Addr} {od34 an34:Option Addr} {sl34:Array (Option Value)} {oc34 kV34 dc34 pm34 cd34 ct34:Value}
 (a34:PySem.W.nsIn K mainGlobals "_law_some_marks"=some (some (.ref f34))) (l34:K.lookup f34=some ⟨oc34,od34, .func (PySem.W.fnOf "_law_some_marks" "_law_some_marks" (zq zK) (zp zK) (zc zK) .none kV34 dc34 pm34 an34 cd34 ct34),sl34⟩) (c34:PySem.W.codeIn K cd34 "_law_some_marks"=true) (k34:PySem.W.keepIn K (.ref f34)=true)
 {f35:Addr} {od35 an35:Option Addr} {sl35:Array (Option Value)} {oc35 kV35 dc35 pm35 cd35 ct35:Value}
 (a35:PySem.W.nsIn K mainGlobals "_law_letter"=some (some (.ref f35))) (l35:K.lookup f35=some ⟨oc35,od35, .func (PySem.W.fnOf "_law_letter" "_law_letter" (zq zaJ) (zp zaJ) (zc zaJ) .none kV35 dc35 pm35 an35 cd35 ct35),sl35⟩) (c35:PySem.W.codeIn K cd35 "_law_letter"=true) (k35:PySem.W.keepIn K (.ref f35)=true)
 {f36:Addr} {od36 an36:Option Addr} {sl36:Array (Option Value)} {oc36 kV36 dc36 pm36 cd36 ct36:Value}
 (a36:PySem.W.nsIn K mainGlobals "_law_last_told"=some (some (.ref f36))) (l36:K.lookup f36=some ⟨oc36,od36, .func (PySem.W.fnOf "_law_last_told" "_law_last_told" (zq zY) (zp zY) (zc zY) .none kV36 dc36 pm36 an36 cd36 ct36),sl36⟩) (c36:PySem.W.codeIn K cd36 "_law_last_told"=true) (k36:PySem.W.keepIn K (.ref f36)=true)
 {f37:Addr} {od37 an37:Option Addr} {sl37:Array (Option Value)} {oc37 kV37 dc37 pm37 cd37 ct37:Value}
 (a37:PySem.W.nsIn K mainGlobals "_law_shuffled"=some (some (.ref f37))) (l37:K.lookup f37=some ⟨oc37,od37, .func (PySem.W.fnOf "_law_shuffled" "_law_shuffled" (zq zab) (zp zab) (zc zab) .none kV37 dc37 pm37 an37 cd37 ct37),sl37⟩) (c37:PySem.W.codeIn K cd37 "_law_shuffled"=true) (k37:PySem.W.keepIn K (.ref f37)=true)
 {f38:Addr} {od38 an38:Option Addr} {sl38:Array (Option Value)} {oc38 kV38 dc38 pm38 cd38 ct38:Value}
 (a38:PySem.W.nsIn K mainGlobals "_law_newest"=some (some (.ref f38))) (l38:K.lookup f38=some ⟨oc38,od38, .func (PySem.W.fnOf "_law_newest" "_law_newest" (zq zai) (zp zai) (zc zai) .none kV38 dc38 pm38 an38 cd38 ct38),sl38⟩) (c38:PySem.W.codeIn K cd38 "_law_newest"=true) (k38:PySem.W.keepIn K (.ref f38)=true)
 {f39:Addr} {od39 an39:Option Addr} {sl39:Array (Option Value)} {oc39 kV39 dc39 pm39 cd39 ct39:Value}
 (a39:PySem.W.nsIn K mainGlobals "_law_heard_by"=some (some (.ref f39))) (l39:K.lookup f39=some ⟨oc39,od39, .func (PySem.W.fnOf "_law_heard_by" "_law_heard_by" (zq zN) (zp zN) (zc zN) .none kV39 dc39 pm39 an39 cd39 ct39),sl39⟩) (c39:PySem.W.codeIn K cd39 "_law_heard_by"=true) (k39:PySem.W.keepIn K (.ref f39)=true)
 {f40:Addr} {od40 an40:Option Addr} {sl40:Array (Option Value)} {oc40 kV40 dc40 pm40 cd40 ct40:Value}
 (a40:PySem.W.nsIn K mainGlobals "law"=some (some (.ref f40))) (l40:K.lookup f40=some ⟨oc40,od40, .func (PySem.W.fnOf "law" "law" (zq zc4) (zp zc4) (zc zc4) .none kV40 dc40 pm40 an40 cd40 ct40),sl40⟩) (c40:PySem.W.codeIn K cd40 "law"=true) (k40:PySem.W.keepIn K (.ref f40)=true)
 {aT_NOTHING eT_NOTHING:Addr} {odT_NOTHING odE_NOTHING:Option Addr} {slT_NOTHING slE_NOTHING:Array (Option Value)} {nT_NOTHING nE_NOTHING:Nat} {tT_NOTHING:Tok} (g_NOTHING:PySem.W.nsIn K mainGlobals "NOTHING"=some (some (.ref aT_NOTHING))) (l_NOTHING:K.lookup aT_NOTHING=some ⟨.type "tuple",odT_NOTHING, .seq #[.int 0 tT_NOTHING, .none, .ref eT_NOTHING] nT_NOTHING,slT_NOTHING⟩) (le_NOTHING:K.lookup eT_NOTHING=some ⟨.type "tuple",odE_NOTHING, .seq #[] nE_NOTHING,slE_NOTHING⟩)
 (z_isinstance:PySem.W.nsIn K mainGlobals "isinstance"=some none)
 (z_len:PySem.W.nsIn K mainGlobals "len"=some none)
 (z_int:PySem.W.nsIn K mainGlobals "int"=some none)
 (z_tuple:PySem.W.nsIn K mainGlobals "tuple"=some none)
 (z_range:PySem.W.nsIn K mainGlobals "range"=some none)
 (z_max:PySem.W.nsIn K mainGlobals "max"=some none)
 (z_min:PySem.W.nsIn K mainGlobals "min"=some none)
 (z_sorted:PySem.W.nsIn K mainGlobals "sorted"=some none)
 (z_all:PySem.W.nsIn K mainGlobals "all"=some none)
 (z_list:PySem.W.nsIn K mainGlobals "list"=some none)
 (z_str:PySem.W.nsIn K mainGlobals "str"=some none)
 :∃fd:FuncData,(∀(s:Shared) (v:Value),BindsTo s fd ⟨[v],[]⟩ [("_law_script",v)])/\∀base:Heap,K.In base->base.Ns mainGlobals mg->FnOk l.prog w K mg base CX0 11 fa fd ["_law_script"] (zjK K):=by
 have e:=hfa.symm.trans (PySem.W.mg_of X G a40)
 cases e
 have F1:=zjz (st:=zdi) l1 ld1 c1 k1
 have F2:=zjz (st:=zbx) l2 ld2 c2 k2
 have F3:=zy (st:=zaR) l3 c3 k3
 have F4:=zy (st:=zby) l4 c4 k4
 have F5:=zy (st:=zc2) l5 c5 k5
 have F6:=zy (st:=z4) l6 c6 k6
 have F7:=zy (st:=zcy) l7 c7 k7
 have F8:=zy (st:=zc9) l8 c8 k8
 have F9:=zy (st:=zaW) l9 c9 k9
 have F10:=zy (st:=zaw) l10 c10 k10
 have F11:=zy (st:=zZ) l11 c11 k11
 have F12:=zy (st:=zbf) l12 c12 k12
 have F13:=zy (st:=zaC) l13 c13 k13
 have F14:=zy (st:=zaG) l14 c14 k14
 have F15:=zy (st:=zaE) l15 c15 k15
 have F16:=zy (st:=zaU) l16 c16 k16
 have F17:=zy (st:=zak) l17 c17 k17
 have F18:=zy (st:=zU) l18 c18 k18
 have F19:=zy (st:=zaB) l19 c19 k19
 have F20:=zy (st:=zaI) l20 c20 k20
 have F21:=zy (st:=zac) l21 c21 k21
 have F22:=zy (st:=zbb) l22 c22 k22
 have F23:=zy (st:=zbz) l23 c23 k23
 have F24:=zy (st:=zbd) l24 c24 k24
 have F25:=zy (st:=za9) l25 c25 k25
 have F26:=zy (st:=zav) l26 c26 k26
 have F27:=zy (st:=zbg) l27 c27 k27
 have F28:=zy (st:=zat) l28 c28 k28
 have F29:=zy (st:=zam) l29 c29 k29
 have F30:=zy (st:=zaT) l30 c30 k30
 have F31:=zy (st:=zbe) l31 c31 k31
 have F32:=zy (st:=zaq) l32 c32 k32
 have F33:=zy (st:=zV) l33 c33 k33
 have F34:=zy (st:=zK) l34 c34 k34
 have F35:=zy (st:=zaJ) l35 c35 k35
 have F36:=zy (st:=zY) l36 c36 k36
 have F37:=zy (st:=zab) l37 c37 k37
 have F38:=zy (st:=zai) l38 c38 k38
 have F39:=zy (st:=zN) l39 c39 k39
 have F40:=zy (st:=zc4) l40 c40 k40
 have b1:=F1.binds (ps:=zbV) (ds:=[]) 4 rfl λ_ _ _ _ _ _ _=>of4 (λ_ _ _ _=>⟨_,rfl,rfl⟩)
 have e1:=F1.binds (ps:=zbV) (ds:=[.none]) 3 rfl λ_ _ _ _ _ _ _=>of3 (λ_ _ _=>⟨_,rfl,rfl⟩)
 have b2:=F2.binds (ps:=za4) (ds:=[]) 4 rfl λ_ _ _ _ _ _ _=>of4 (λ_ _ _ _=>⟨_,rfl,rfl⟩)
 have e2:=F2.binds (ps:=za4) (ds:=[.none]) 3 rfl λ_ _ _ _ _ _ _=>of3 (λ_ _ _=>⟨_,rfl,rfl⟩)
 have b3:=F3.binds (ps:=zbm) λ_ _ _ _ _ _=>of2 (λ_ _=>rfl)
 have b4:=F4.binds (ps:=zb9) λ_ _ _ _ _ _=>of2 (λ_ _=>rfl)
 have b5:=F5.binds (ps:=zcD) λ_ _ _ _ _ _=>of2 (λ_ _=>rfl)
 have b6:=F6.binds (ps:=zaP) λ_ _ _ _ _ _=>of2 (λ_ _=>rfl)
 have b7:=F7.binds (ps:=zc6) λ_ _ _ _ _ _=>of4 (λ_ _ _ _=>rfl)
 have b8:=F8.binds (ps:=zdf) λ_ _ _ _ _ _=>of3 (λ_ _ _=>rfl)
 have b9:=F9.binds (ps:=zbt) λ_ _ _ _ _ _=>of3 (λ_ _ _=>rfl)
 have b10:=F10.binds (ps:=zbj) λ_ _ _ _ _ _=>of2 (λ_ _=>rfl)
 have b11:=F11.binds (ps:=zan) λ_ _ _ _ _ _=>of3 (λ_ _ _=>rfl)
 have b12:=F12.binds (ps:=zbK) λ_ _ _ _ _ _=>of1 (λ_=>rfl)
 have b13:=F13.binds (ps:=zaZ) λ_ _ _ _ _ _=>of1 (λ_=>rfl)
 have b14:=F14.binds (ps:=zaF) λ_ _ _ _ _ _=>of2 (λ_ _=>rfl)
 have b15:=F15.binds (ps:=za1) λ_ _ _ _ _ _=>of1 (λ_=>rfl)
 have b16:=F16.binds (ps:=zbh) λ_ _ _ _ _ _=>of2 (λ_ _=>rfl)
 have b17:=F17.binds (ps:=zaM) λ_ _ _ _ _ _=>of1 (λ_=>rfl)
 have b18:=F18.binds (ps:=zaf) λ_ _ _ _ _ _=>of1 (λ_=>rfl)
 have b19:=F19.binds (ps:=zaA) λ_ _ _ _ _ _=>of2 (λ_ _=>rfl)
 have b20:=F20.binds (ps:=zaX) λ_ _ _ _ _ _=>of2 (λ_ _=>rfl)
 have b21:=F21.binds (ps:=zaa) λ_ _ _ _ _ _=>of1 (λ_=>rfl)
 have b22:=F22.binds (ps:=zbJ) λ_ _ _ _ _ _=>of2 (λ_ _=>rfl)
 have b23:=F23.binds (ps:=zcb) λ_ _ _ _ _ _=>of1 (λ_=>rfl)
 have b24:=F24.binds (ps:=zE) λ_ _ _ _ _ _=>of2 (λ_ _=>rfl)
 have b25:=F25.binds (ps:=zF) λ_ _ _ _ _ _=>of2 (λ_ _=>rfl)
 have b26:=F26.binds (ps:=zbo) λ_ _ _ _ _ _=>of2 (λ_ _=>rfl)
 have b27:=F27.binds (ps:=zbO) λ_ _ _ _ _ _=>of4 (λ_ _ _ _=>rfl)
 have b28:=F28.binds (ps:=zaV) λ_ _ _ _ _ _=>of4 (λ_ _ _ _=>rfl)
 have b29:=F29.binds (ps:=zaN) λ_ _ _ _ _ _=>of3 (λ_ _ _=>rfl)
 have b30:=F30.binds (ps:=zbi) λ_ _ _ _ _ _=>of3 (λ_ _ _=>rfl)
 have b31:=F31.binds (ps:=zbH) λ_ _ _ _ _ _=>of3 (λ_ _ _=>rfl)
 have b32:=F32.binds (ps:=zbQ) λ_ _ _ _ _ _=>of1 (λ_=>rfl)
 have b33:=F33.binds (ps:=zax) λ_ _ _ _ _ _=>of3 (λ_ _ _=>rfl)
 have b34:=F34.binds (ps:=zag) λ_ _ _ _ _ _=>of2 (λ_ _=>rfl)
 have b35:=F35.binds (ps:=zaY) λ_ _ _ _ _ _=>of4 (λ_ _ _ _=>rfl)
 have b36:=F36.binds (ps:=zal) λ_ _ _ _ _ _=>of1 (λ_=>rfl)
 have b37:=F37.binds (ps:=zaz) λ_ _ _ _ _ _=>of2 (λ_ _=>rfl)
 have b38:=F38.binds (ps:=za0) λ_ _ _ _ _ _=>of1 (λ_=>rfl)
 have b39:=F39.binds (ps:=zay) λ_ _ _ _ _ _=>of3 (λ_ _ _=>rfl)
 have b40:=F40.binds (ps:=zjC) λ_ _ _ _ _ _=>of1 (λ_=>rfl)
 have Y:Ev K mg:={
  c_House:=C_House,k_House:=⟨pg_House,hd_House,po_House,sa_House⟩,m_House:=PySem.W.mg_of X G aC_House,n_House_place:=n_House_place,n_House_name:=n_House_name,n_House_hearings:=n_House_hearings,n_House_tellings:=n_House_tellings,n_House_going:=n_House_going,n_House_times:=n_House_times,
  mk_House:=⟨mk_House,a11,i11,kc_House⟩,
  a_NOTHING:=_,e_NOTHING:=_,m_NOTHING:=PySem.W.mg_of X G g_NOTHING,t_NOTHING:=λH=> .inr ⟨_,_,nT_NOTHING,l_NOTHING,rfl,rfl,by show 3<=sizeLine;decide, .cons ⟨tT_NOTHING,rfl⟩ (.cons rfl (.cons rfl .nil))⟩,u_NOTHING:=λH=> .inr ⟨_,_,nE_NOTHING,le_NOTHING,rfl,rfl,by show 0<=sizeLine;decide, .nil⟩,
  a_holds:=f1,d_holds:=_,holds:=⟨F1,b1,e1,PySem.W.mg_of X G a1,k1⟩,
  a_all_hold:=f2,d_all_hold:=_,all_hold:=⟨F2,b2,e2,PySem.W.mg_of X G a2,k2⟩,
  a_likings_of:=f3,d_likings_of:=_,likings_of:=⟨F3,b3,PySem.W.mg_of X G a3,k3⟩,
  a_hands_of:=f4,d_hands_of:=_,hands_of:=⟨F4,b4,PySem.W.mg_of X G a4,k4⟩,
  a_tied:=f5,d_tied:=_,tied:=⟨F5,b5,PySem.W.mg_of X G a5,k5⟩,
  a_marks_behind:=f6,d_marks_behind:=_,marks_behind:=⟨F6,b6,PySem.W.mg_of X G a6,k6⟩,
  a_handed:=f7,d_handed:=_,handed:=⟨F7,b7,PySem.W.mg_of X G a7,k7⟩,
  a_worth:=f8,d_worth:=_,worth:=⟨F8,b8,PySem.W.mg_of X G a8,k8⟩,
  a_liking_key:=f9,d_liking_key:=_,liking_key:=⟨F9,b9,PySem.W.mg_of X G a9,k9⟩,
  a_most_liked:=f10,d_most_liked:=_,most_liked:=⟨F10,b10,PySem.W.mg_of X G a10,k10⟩,
  a_House___init__:=f11,d_House___init__:=_,House___init__:=⟨F11,b11,⟨a11,i11,k11⟩⟩,
  a_House_way:=f12,d_House_way:=_,House_way:=⟨F12,b12,⟨a12,i12,k12⟩⟩,
  a_House_marks:=f13,d_House_marks:=_,House_marks:=⟨F13,b13,⟨a13,i13,k13⟩⟩,
  a_House_heard:=f14,d_House_heard:=_,House_heard:=⟨F14,b14,⟨a14,i14,k14⟩⟩,
  a_House_begin:=f15,d_House_begin:=_,House_begin:=⟨F15,b15,⟨a15,i15,k15⟩⟩,
  a_House_hear:=f16,d_House_hear:=_,House_hear:=⟨F16,b16,⟨a16,i16,k16⟩⟩,
  a_House_choose:=f17,d_House_choose:=_,House_choose:=⟨F17,b17,⟨a17,i17,k17⟩⟩,
  a_House_open_ways:=f18,d_House_open_ways:=_,House_open_ways:=⟨F18,b18,⟨a18,i18,k18⟩⟩,
  a_House_go_by:=f19,d_House_go_by:=_,House_go_by:=⟨F19,b19,⟨a19,i19,k19⟩⟩,
  a_House_offer:=f20,d_House_offer:=_,House_offer:=⟨F20,b20,⟨a20,i20,k20⟩⟩,
  a_House_letters:=f21,d_House_letters:=_,House_letters:=⟨F21,b21,⟨a21,i21,k21⟩⟩,
  a__law_hand:=f22,d__law_hand:=_,_law_hand:=⟨F22,b22,PySem.W.mg_of X G a22,k22⟩,
  a__law_all:=f23,d__law_all:=_,_law_all:=⟨F23,b23,PySem.W.mg_of X G a23,k23⟩,
  a__law_take:=f24,d__law_take:=_,_law_take:=⟨F24,b24,PySem.W.mg_of X G a24,k24⟩,
  a__law_pick:=f25,d__law_pick:=_,_law_pick:=⟨F25,b25,PySem.W.mg_of X G a25,k25⟩,
  a__law_names:=f26,d__law_names:=_,_law_names:=⟨F26,b26,PySem.W.mg_of X G a26,k26⟩,
  a__law_cond:=f27,d__law_cond:=_,_law_cond:=⟨F27,b27,PySem.W.mg_of X G a27,k27⟩,
  a__law_conds:=f28,d__law_conds:=_,_law_conds:=⟨F28,b28,PySem.W.mg_of X G a28,k28⟩,
  a__law_likings:=f29,d__law_likings:=_,_law_likings:=⟨F29,b29,PySem.W.mg_of X G a29,k29⟩,
  a__law_hands:=f30,d__law_hands:=_,_law_hands:=⟨F30,b30,PySem.W.mg_of X G a30,k30⟩,
  a__law_ties:=f31,d__law_ties:=_,_law_ties:=⟨F31,b31,PySem.W.mg_of X G a31,k31⟩,
  a__law_town:=f32,d__law_town:=_,_law_town:=⟨F32,b32,PySem.W.mg_of X G a32,k32⟩,
  a__law_real_way:=f33,d__law_real_way:=_,_law_real_way:=⟨F33,b33,PySem.W.mg_of X G a33,k33⟩,
  a__law_some_marks:=f34,d__law_some_marks:=_,_law_some_marks:=⟨F34,b34,PySem.W.mg_of X G a34,k34⟩,
  a__law_letter:=f35,d__law_letter:=_,_law_letter:=⟨F35,b35,PySem.W.mg_of X G a35,k35⟩,
  a__law_last_told:=f36,d__law_last_told:=_,_law_last_told:=⟨F36,b36,PySem.W.mg_of X G a36,k36⟩,
  a__law_shuffled:=f37,d__law_shuffled:=_,_law_shuffled:=⟨F37,b37,PySem.W.mg_of X G a37,k37⟩,
  a__law_newest:=f38,d__law_newest:=_,_law_newest:=⟨F38,b38,PySem.W.mg_of X G a38,k38⟩,
  a__law_heard_by:=f39,d__law_heard_by:=_,_law_heard_by:=⟨F39,b39,PySem.W.mg_of X G a39,k39⟩,
  a_law:=fa,d_law:=_,law:=⟨F40,b40,PySem.W.mg_of X G a40,k40⟩,
  isinstance:=PySem.W.mg_none_of X G z_isinstance,
  len:=PySem.W.mg_none_of X G z_len,
  int:=PySem.W.mg_none_of X G z_int,
  tuple:=PySem.W.mg_none_of X G z_tuple,
  range:=PySem.W.mg_none_of X G z_range,
  max:=PySem.W.mg_none_of X G z_max,
  min:=PySem.W.mg_none_of X G z_min,
  sorted:=PySem.W.mg_none_of X G z_sorted,
  all:=PySem.W.mg_none_of X G z_all,
  list:=PySem.W.mg_none_of X G z_list,
  str:=PySem.W.mg_none_of X G z_str}
 exact⟨PySem.W.fnOf "law" "law" (zq zc4) (zp zc4) (zc zc4) .none kV40 dc40 pm40 an40 cd40 ct40,λs v=> .of_eq rfl,λbase _ _=>zkl Y F40⟩
noncomputable def vw:Program:={PySem.Challenge.pw_restways_k40_whole_newest_count with main:={PySem.Challenge.pw_restways_k40_whole_newest_count.main with body:=([0,5,6,7,9,10,12,13,14,16,17,19,20,21,22,23,24,25,26,27,28,29,30,31,32,33,34,35,36,37]:List Nat).filterMap λi=>PySem.Challenge.pw_restways_k40_whole_newest_count.main.body[i]?}}
end K40
open PySem PySem.W PyProof.Rows
local macro_rules | `(tactic|o_head $H)=> `(tactic|(
 refine holds_open (N:=3332) (q:=K40.vw) (loose:=[(PySem.Str.ofString "holds"),(PySem.Str.ofString "all_hold")]) (YP:=Hook.says $H) (Ya:=Hook.val $H) (Yf:=Hook.obs $H) (XP:=XL K40.vw [])
  (Xt:=λz=>xlAt K40.vw [] z&&recOk [] z) (λw=>by kernel_rfl) (Hook.of $H) (Hook.keeps $H) (λz e=>xl_of z (Bool.and_eq_true_iff.mp e).1) XL.keeps
  (by rfl) (by rfl) (by rfl) (λz e=>recFacts_of (Bool.and_eq_true_iff.mp e).2) (by rfl) (by first|assumption|decide +kernel) (by decide +kernel)
  ⟨rfl,rfl,rfl,rfl,rfl,by decide +kernel⟩ ?hw ?hc))
set_option maxRecDepth 100000 in
set_option maxHeartbeats 0 in
theorem PySem.Challenge.cw_restways_k40_whole_newest_count_holds : PySem.Challenge.rw_restways_k40_whole_newest_count.Holds := by
 w_on;o_law;k_head;(case hw=>w_witness2)
 k_fill
 refine K40.walk (l:=PySem.Challenge.rw_restways_k40_whole_newest_count) rfl rfl (λw h Y=>PySem.W.kIn_of Y) ?F
 case F=>
  intro w mg fa h KX G hmg
  refine' K40.all_mk KX G hmg ?aC_House ?pg_House ?hd_House ?po_House ?sa_House ?mk_House ?kc_House ?n_House_place ?n_House_name ?n_House_hearings ?n_House_tellings ?n_House_going ?n_House_times ?a1 ?l1 ?c1 ?k1 ?ld1 ?a2 ?l2 ?c2 ?k2 ?ld2 ?a3 ?l3 ?c3 ?k3 ?a4 ?l4 ?c4 ?k4 ?a5 ?l5 ?c5 ?k5 ?a6 ?l6 ?c6 ?k6 ?a7 ?l7 ?c7 ?k7 ?a8 ?l8 ?c8 ?k8 ?a9 ?l9 ?c9 ?k9 ?a10 ?l10 ?c10 ?k10 ?a11 ?i11 ?l11 ?c11 ?k11 ?a12 ?i12 ?l12 ?c12 ?k12 ?a13 ?i13 ?l13 ?c13 ?k13 ?a14 ?i14 ?l14 ?c14 ?k14 ?a15 ?i15 ?l15 ?c15 ?k15 ?a16 ?i16 ?l16 ?c16 ?k16 ?a17 ?i17 ?l17 ?c17 ?k17 ?a18 ?i18 ?l18 ?c18 ?k18 ?a19 ?i19 ?l19 ?c19 ?k19 ?a20 ?i20 ?l20 ?c20 ?k20 ?a21 ?i21 ?l21 ?c21 ?k21 ?a22 ?l22 ?c22 ?k22 ?a23 ?l23 ?c23 ?k23 ?a24 ?l24 ?c24 ?k24 ?a25 ?l25 ?c25 ?k25 ?a26 ?l26 ?c26 ?k26 ?a27 ?l27 ?c27 ?k27 ?a28 ?l28 ?c28 ?k28 ?a29 ?l29 ?c29 ?k29 ?a30 ?l30 ?c30 ?k30 ?a31 ?l31 ?c31 ?k31 ?a32 ?l32 ?c32 ?k32 ?a33 ?l33 ?c33 ?k33 ?a34 ?l34 ?c34 ?k34 ?a35 ?l35 ?c35 ?k35 ?a36 ?l36 ?c36 ?k36 ?a37 ?l37 ?c37 ?k37 ?a38 ?l38 ?c38 ?k38 ?a39 ?l39 ?c39 ?k39 ?a40 ?l40 ?c40 ?k40 ?g_NOTHING ?l_NOTHING ?le_NOTHING ?z_isinstance ?z_len ?z_int ?z_tuple ?z_range ?z_max ?z_min ?z_sorted ?z_all ?z_list ?z_str
  (case aC_House=>k_is)
  (case pg_House=>k_is)
  (case hd_House=>k_is)
  (case po_House=>k_is)
  (case sa_House=>k_is)
  (case mk_House=>k_is)
  (case kc_House=>k_is)
  (case n_House_place=>k_is)
  (case n_House_name=>k_is)
  (case n_House_hearings=>k_is)
  (case n_House_tellings=>k_is)
  (case n_House_going=>k_is)
  (case n_House_times=>k_is)
  (case a1=>k_is)
  (case l1=>k_is)
  (case c1=>k_is)
  (case k1=>k_is)
  (case ld1=>k_is)
  (case a2=>k_is)
  (case l2=>k_is)
  (case c2=>k_is)
  (case k2=>k_is)
  (case ld2=>k_is)
  (case a3=>k_is)
  (case l3=>k_is)
  (case c3=>k_is)
  (case k3=>k_is)
  (case a4=>k_is)
  (case l4=>k_is)
  (case c4=>k_is)
  (case k4=>k_is)
  (case a5=>k_is)
  (case l5=>k_is)
  (case c5=>k_is)
  (case k5=>k_is)
  (case a6=>k_is)
  (case l6=>k_is)
  (case c6=>k_is)
  (case k6=>k_is)
  (case a7=>k_is)
  (case l7=>k_is)
  (case c7=>k_is)
  (case k7=>k_is)
  (case a8=>k_is)
  (case l8=>k_is)
  (case c8=>k_is)
  (case k8=>k_is)
  (case a9=>k_is)
  (case l9=>k_is)
  (case c9=>k_is)
  (case k9=>k_is)
  (case a10=>k_is)
  (case l10=>k_is)
  (case c10=>k_is)
  (case k10=>k_is)
  (case a11=>k_is)
  (case i11=>k_is)
  (case l11=>k_is)
  (case c11=>k_is)
  (case k11=>k_is)
  (case a12=>k_is)
  (case i12=>k_is)
  (case l12=>k_is)
  (case c12=>k_is)
  (case k12=>k_is)
  (case a13=>k_is)
  (case i13=>k_is)
  (case l13=>k_is)
  (case c13=>k_is)
  (case k13=>k_is)
  (case a14=>k_is)
  (case i14=>k_is)
  (case l14=>k_is)
  (case c14=>k_is)
  (case k14=>k_is)
  (case a15=>k_is)
  (case i15=>k_is)
  (case l15=>k_is)
  (case c15=>k_is)
  (case k15=>k_is)
  (case a16=>k_is)
  (case i16=>k_is)
  (case l16=>k_is)
  (case c16=>k_is)
  (case k16=>k_is)
  (case a17=>k_is)
  (case i17=>k_is)
  (case l17=>k_is)
  (case c17=>k_is)
  (case k17=>k_is)
  (case a18=>k_is)
  (case i18=>k_is)
  (case l18=>k_is)
  (case c18=>k_is)
  (case k18=>k_is)
  (case a19=>k_is)
  (case i19=>k_is)
  (case l19=>k_is)
  (case c19=>k_is)
  (case k19=>k_is)
  (case a20=>k_is)
  (case i20=>k_is)
  (case l20=>k_is)
  (case c20=>k_is)
  (case k20=>k_is)
  (case a21=>k_is)
  (case i21=>k_is)
  (case l21=>k_is)
  (case c21=>k_is)
  (case k21=>k_is)
  (case a22=>k_is)
  (case l22=>k_is)
  (case c22=>k_is)
  (case k22=>k_is)
  (case a23=>k_is)
  (case l23=>k_is)
  (case c23=>k_is)
  (case k23=>k_is)
  (case a24=>k_is)
  (case l24=>k_is)
  (case c24=>k_is)
  (case k24=>k_is)
  (case a25=>k_is)
  (case l25=>k_is)
  (case c25=>k_is)
  (case k25=>k_is)
  (case a26=>k_is)
  (case l26=>k_is)
  (case c26=>k_is)
  (case k26=>k_is)
  (case a27=>k_is)
  (case l27=>k_is)
  (case c27=>k_is)
  (case k27=>k_is)
  (case a28=>k_is)
  (case l28=>k_is)
  (case c28=>k_is)
  (case k28=>k_is)
  (case a29=>k_is)
  (case l29=>k_is)
  (case c29=>k_is)
  (case k29=>k_is)
  (case a30=>k_is)
  (case l30=>k_is)
  (case c30=>k_is)
  (case k30=>k_is)
  (case a31=>k_is)
  (case l31=>k_is)
  (case c31=>k_is)
  (case k31=>k_is)
  (case a32=>k_is)
  (case l32=>k_is)
  (case c32=>k_is)
  (case k32=>k_is)
  (case a33=>k_is)
  (case l33=>k_is)
  (case c33=>k_is)
  (case k33=>k_is)
  (case a34=>k_is)
  (case l34=>k_is)
  (case c34=>k_is)
  (case k34=>k_is)
  (case a35=>k_is)
  (case l35=>k_is)
  (case c35=>k_is)
  (case k35=>k_is)
  (case a36=>k_is)
  (case l36=>k_is)
  (case c36=>k_is)
  (case k36=>k_is)
  (case a37=>k_is)
  (case l37=>k_is)
  (case c37=>k_is)
  (case k37=>k_is)
  (case a38=>k_is)
  (case l38=>k_is)
  (case c38=>k_is)
  (case k38=>k_is)
  (case a39=>k_is)
  (case l39=>k_is)
  (case c39=>k_is)
  (case k39=>k_is)
  (case a40=>k_is)
  (case l40=>k_is)
  (case c40=>k_is)
  (case k40=>k_is)
  (case g_NOTHING=>k_is)
  (case l_NOTHING=>k_is)
  (case le_NOTHING=>k_is)
  (case z_isinstance=>k_is)
  (case z_len=>k_is)
  (case z_int=>k_is)
  (case z_tuple=>k_is)
  (case z_range=>k_is)
  (case z_max=>k_is)
  (case z_min=>k_is)
  (case z_sorted=>k_is)
  (case z_all=>k_is)
  (case z_list=>k_is)
  (case z_str=>k_is)
