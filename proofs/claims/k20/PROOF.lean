import PyProof.Rows.All
import Wide.All
import OpenK.AllK
import Wide.FinOn
import Lean
import PyProof.EqAt
import PyProof.EqKinds
import PyProof.TupleCall
import KE.KSortTup
import KE.KDictSum
import PyProof.Rows.SortStr
import PyProof.AutoSeq1
import PyProof.ZipIter
import PyProof.Rows.FStr
import PyProof.Rows.FStrParts
import PyProof.AttrMissHeap
import KE.KDictOf
import PyProof.StrCalls
import KE.KStrOpen
import KE.KRevIter
import PyProof.WalkInts
import KE.KDictList
import PyProof.Rows.SetFrom
import PyProof.SetRoads
import PyProof.DictCompW
import PyProof.DictItems
import KE.KPairComp
import KE.KEqDict
import PySem.Challenge.RW_restways_k20_whole_let_ways_and_ties
set_option Elab.async false
set_option linter.all false
set_option maxRecDepth 100000
namespace L2
open PySem PySem.Spec PyProof.Rows
abbrev Key:=Sum Int Str
def zfn:Key->Value->Bool
 | .inl k,v=>Value.isInt k v
 | .inr x,v=>Value.isStrOf x v
def zp6(w:World):Key->Int
 | .inl k=>hashInt k
 | .inr x=>hashStr w x
theorem z9:∀{k:Key} {v:Value},zfn k v=true->(∃i t,k=Sum.inl i/\v=Value.int i t)\/(∃x t,k=Sum.inr x/\v=Value.str x t)
 | .inl i,v,h=>by
   obtain⟨t,e⟩:=Value.isInt_shape (k:=i) (v:=v) h
   exact .inl ⟨i,t,rfl,e⟩
 | .inr x,v,h=>by
   obtain⟨t,e⟩:=Value.isStrOf_shape (x:=x) (v:=v) h
   exact .inr ⟨x,t,rfl,e⟩
theorem zjy(i:Int)(t:Tok):zfn (.inl i) (.int i t)=true:=by simp[zfn,Value.isInt]
theorem zj5(x:Str)(t:Tok):zfn (.inr x) (.str x t)=true:=by simp[zfn,Value.isStrOf]
theorem zn6(a b:Int):decide ((Sum.inl a:Key)=Sum.inl b)=(a==b):=by
 by_cases e:a=b
 ·subst e;simp
 ·have h:¬(Sum.inl a:Key)=Sum.inl b:=λq=>e (Sum.inl.inj q)
  rw[decide_eq_false h]
  exact(beq_eq_false_iff_ne.mpr e).symm
theorem zoS(a b:Str):decide ((Sum.inr a:Key)=Sum.inr b)=decide (a=b):=by
 by_cases e:a=b
 ·subst e;simp
 ·have h:¬(Sum.inr a:Key)=Sum.inr b:=λq=>e (Sum.inr.inj q)
  rw[decide_eq_false h,decide_eq_false e]
theorem zof(a:Int)(b:Str):decide ((Sum.inl a:Key)=Sum.inr b)=false:=decide_eq_false (λq=>nomatch q)
theorem zoQ(a:Str)(b:Int):decide ((Sum.inr a:Key)=Sum.inl b)=false:=decide_eq_false (λq=>nomatch q)
def zah(prog:Program)(w:World):PySem.KeyKind prog w Key where
 is:=zfn
 hash:=zp6 w
 inj:=λv a b ha hb=>by
  rcases z9 ha with⟨i,t,rfl,rfl⟩|⟨x,t,rfl,rfl⟩
  ·rcases z9 hb with⟨j,u,rfl,e⟩|⟨y,u,rfl,e⟩
   ·injection e with e1 _;rw[e1]
   ·exact nomatch e
  ·rcases z9 hb with⟨j,u,rfl,e⟩|⟨y,u,rfl,e⟩
   ·exact nomatch e
   ·injection e with e1 _;rw[e1]
 byValue:=λk v h=>by
   rcases z9 h with⟨i,t,rfl,rfl⟩|⟨x,t,rfl,rfl⟩<;>rfl
 pyHash:=λhv h=>by
  rcases z9 hv with⟨i,t,rfl,rfl⟩|⟨x,t,rfl,rfl⟩
  ·exact wpAny_pyHash_int h
  ·exact wpAny_pyHash_str h
 eqBool:=λhu hv h=>by
  rcases z9 hu with⟨i,t,rfl,rfl⟩|⟨x,t,rfl,rfl⟩
  ·rcases z9 hv with⟨j,u,rfl,rfl⟩|⟨y,u,rfl,rfl⟩
   ·rw[zn6] at h;exact wpAny_eqBool_int h
   ·rw[zof] at h;exact SeqAt.EqAt.int_str i t y u _ _ _ _ h
  ·rcases z9 hv with⟨j,u,rfl,rfl⟩|⟨y,u,rfl,rfl⟩
   ·rw[zoQ] at h;exact SeqAt.EqAt.str_int x t j u _ _ _ _ h
   ·rw[zoS] at h;exact wpAny_eqBool_str h
 «strs»:=λk x t v h=>by
  rcases z9 h with⟨i,u,rfl,e⟩|⟨y,u,rfl,e⟩
  ·exact nomatch e
  ·injection e with e1 _
   subst e1
   cases v<;>rfl
theorem zgY(prog:Program)(w:World)(i:Int)(t:Tok):(zah prog w).is (.inl i) (.int i t)=true:=zjy i t
theorem zht(prog:Program)(w:World)(x:Str)(t:Tok):(zah prog w).is (.inr x) (.str x t)=true:=zj5 x t
inductive V where
 |non|bl (b:Bool)|int (i:Int)|str (x:Str)|byt (b:Array UInt8)|flt (b:UInt64)|ref (a:Addr)|ty (n:String)
 deriving DecidableEq
def RelV:V->Value->Prop
 | .non,u=>u=Value.none
 | .bl b,u=>u=Value.bool b
 | .int i,u=>∃t,u=Value.int i t
 | .str x,u=>∃t,u=Value.str x t
 | .byt b,u=>∃t,u=Value.bytes b t
 | .flt b,u=>∃t,u=Value.float b t
 | .ref a,u=>u=Value.ref a
 | .ty n,u=>u=Value.type n
abbrev Vals:List V->List Value->Prop:=Paired RelV
theorem Vals.length{xs:List V}{us:List Value}(r:Vals xs us):xs.length=us.length:=Paired.length r
theorem Vals.get:∀{xs:List V} {us:List Value} {i:Nat} {x:V},Vals xs us->xs[i]?=some x->∃u,us[i]?=some u/\RelV x u
 |_,_,_,_, .nil,e=>by simp at e
 |_,_,0,_, .cons r _,e=>by simp at e;subst e;exact⟨_,rfl,r⟩
 |_,_,i+1,x, .cons _ t,e=>by
  obtain⟨u,h1,h2⟩:=Vals.get (i:=i) (x:=x) t (by simpa using e)
  exact⟨u,by simpa using h1,h2⟩
theorem Vals.set{x:V}{u:Value}(r:RelV x u):∀{xs:List V} {us:List Value} (i:Nat),Vals xs us->Vals (xs.set i x) (us.set i u)
 |_,_,_, .nil=> .nil
 |_,_,0, .cons _ t=> .cons r t
 |_,_,i+1, .cons q t=> .cons q (Vals.set r i t)
theorem Vals.append:∀{xs ys:List V} {us ws:List Value},Vals xs us->Vals ys ws->Vals (xs ++ys) (us ++ws)
 |_,_,_,_, .nil,s=>s
 |_,_,_,_, .cons r t,s=> .cons r (Vals.append t s)
theorem Vals.take:∀{xs:List V} {us:List Value} (n:Nat),Vals xs us->Vals (xs.take n) (us.take n)
 |_,_,0,_=> .nil
 |_,_,_+1, .nil=> .nil
 |_,_,n+1, .cons r t=> .cons r (Vals.take n t)
theorem Vals.drop:∀{xs:List V} {us:List Value} (n:Nat),Vals xs us->Vals (xs.drop n) (us.drop n)
 |_,_,0,r=>r
 |_,_,_+1, .nil=> .nil
 |_,_,n+1, .cons _ t=>Vals.drop n t
def RelO:Option V->Option Value->Prop
 |some v,some u=>RelV v u
 |none,none=>True
 |_,_=>False
def KV{κ:Type}:List (κ×V)->List (κ×Value)->Prop:=Paired λ(p:κ×V) (q:κ×Value)=>p.1=q.1/\RelV p.2 q.2
def kV:Key->V
 | .inl i=> .int i
 | .inr x=> .str x
inductive HO where
 |lst (xs:List V)
 |tup (xs:List V)
 |dK (kvs:List (Key×V))|dT (kvs:List (List Key×V))
 |set (S:Int->Bool) (n:Nat)
 |ins (C dx:Addr) (fs:List (Str×V))
 |own (x:Addr)
 |xd (fs:List (Str×V))
 |met (f x:Addr)
 |rng (lo hi:Int)
 |frz (o:Obj) (u:HO)
 |tbl (ps:Array Value)
 |ext (φ:Heap->Prop)
abbrev Hp:=Addr->Option HO
def upd(H:Hp)(a:Addr)(o:HO):Hp:=λb=>if b=a then some o else H b
theorem zb{H:Hp}{a:Addr}{o:HO}:upd H a o a=some o:=by unfold upd;rw[if_pos rfl]
theorem ze{H:Hp}{a b:Addr}{o:HO}(h:b≠a):upd H a o b=H b:=by unfold upd;rw[if_neg h]
theorem zaN{H:Hp}{a b:Addr}{o u:HO}(h:H a=some o)(h':H b=some u)(d:o≠u):a≠b:=by
 intro e;subst e;rw[h] at h';exact d (Option.some.inj h')
theorem zi{H:Hp}{a b:Addr}{o:HO}(h:H a=some o)(h':H b=none):a≠b:=by
 intro e;subst e;rw[h] at h';cases h'
section
variable(P:Program)(w:World)
def NoDict(h:Heap)(a:Addr):Prop:=∀o,h.get? a=some o->o.dict=none
theorem NoDict.new{h:Heap}{o:Obj}(e:o.dict=none)(f:(h.push o).get? h.objs.size=some o):NoDict (h.push o) h.objs.size:=λo' z=>by rw[f] at z;cases z;exact e
def ObjOk(H:Hp)(h:Heap)(a:Addr):HO->Prop
 | .lst xs=>xs.length<=sizeLine/\∃(its:List Value) (n:Nat),Vals xs its/\h.get? a=some {cls:= .type "list",data:= .seq its.toArray n}
 | .tup xs=>xs.length<=sizeLine/\∃its:List Value,Vals xs its/\IsTup h a its.toArray/\NoDict h a
 | .dK kvs=>kvs.length<=sizeLine/\(a==sysModules)=false/\∃vs,KV kvs vs/\h.DictOf (zah P w) a vs
 | .dT kvs=>kvs.length<=sizeLine/\(a==sysModules)=false/\∃xs:List (List Key×Addr×Value),
    Paired (λ(p:List Key×V) (q:List Key×Addr×Value)=>p.1=q.1/\H q.2.1=some (.tup (p.1.map kV))/\RelV p.2 q.2.2) kvs xs/\
    ∃o es ep,h.get? a=some o/\o.ExactDict/\o.data= .dict es ep/\es.toList=xs.map (entryOfKey (tupleKind (zah P w)))/\(xs.map (·.1)).Nodup
 | .set S n=>h.SetOf (intKind P w) a S n
 | .ins C dx fs=>H dx=some (.own a)/\fs.length<=1000/\dx≠a/\h.get? a=some (PySem.W.instObj C dx)/\
    ∃mA,h.Ns1 dx mA/\(∀f,RelO (fs.lookup f) (mA f))/\PySem.Within mA (fs.map (·.1))
 | .own _=>∃o,h.get? a=some o
 | .xd fs=>∃mA,h.Ns1 a mA/\∀f,RelO (fs.lookup f) (mA f)
 | .rng lo hi=>∃t u v,h.get? a=some {cls:= .type "range",data:= .fields #[.int lo t, .int hi u, .int 1 v]}
 | .frz o u=>h.get? a=some o/\ObjOk H h a u
 | .tbl ps=>h.get? a=some {cls:= .none,data:= .fields ps}
 | .met f x=>h.get? a=some (PySem.W.methodObj (.ref f) (.ref x))
 | .ext φ=>φ h/\(∃o,h.get? a=some o)/\∀h1 h2:Heap,φ h1->(∀o,h1.get? a=some o->h2.get? a=some o)->φ h2
def HOk(H:Hp)(h:Heap):Prop:=∀a o,H a=some o->ObjOk P w H h a o
end
section
variable{P:Program}{w:World}{H H':Hp}{h h':Heap}{a:Addr}{o:HO}
theorem ObjOk.lt(x:ObjOk P w H h a o):a<h.objs.size:=by
 cases o with
 |lst xs=>obtain ⟨_,_,_,_,e⟩:=x;exact Heap.lt_size e
 |tup xs=>obtain ⟨_,_,_,p,_⟩:=x;exact p.lt
 |dK kvs=>obtain ⟨_,_,_,_,o,_,_,e,_⟩:=x;exact Heap.lt_size e
 |dT kvs=>obtain ⟨_,_,_,_,o,_,_,e,_⟩:=x;exact Heap.lt_size e
 |set S n=>obtain ⟨o,_,_,_,e,_⟩:=x;exact Heap.lt_size e
 |ins C dx fs=>obtain ⟨_,_,_,e,_⟩:=x;exact Heap.lt_size e
 |own y=>obtain ⟨_,e⟩:=x;exact Heap.lt_size e
 |xd fs=>obtain ⟨_,⟨_,_,_,e,_⟩,_⟩:=x;exact Heap.lt_size e
 |rng lo hi=>obtain ⟨_,_,_,e⟩:=x;exact Heap.lt_size e
 |frz ob u=>obtain ⟨e,_⟩:=x;exact Heap.lt_size e
 |tbl ps=>exact Heap.lt_size (show h.get? a=some _ from x)
 |met f y=>exact Heap.lt_size (show h.get? a=some _ from x)
 |ext φ=>obtain ⟨_,⟨_,e⟩,_⟩:=x;exact Heap.lt_size e
theorem Paired.mapP{α β:Type}{F G:α->β->Prop}:∀{l₁:List α} {l₂:List β},Paired F l₁ l₂->(∀a b,F a b->G a b)->Paired G l₁ l₂
 |_,_, .nil,_=> .nil
 |_,_, .cons r t,f=> .cons (f _ _ r) (Paired.mapP t f)
theorem ObjOk.stay(x:ObjOk P w H h a o)(k:∀b u,(b=a\/H b=some (.own a))->h.get? b=some u->h'.get? b=some u)
 (ho:∀b,H b=some (.own a)->H' b=some (.own a)) (ht:∀b xs,H b=some (.tup xs)->H' b=some (.tup xs)):ObjOk P w H' h' a o:=by
 induction o with
 |lst xs=>obtain ⟨z,its,n,r,e⟩:=x;exact⟨z,its,n,r,k _ _ (.inl rfl) e⟩
 |tup xs=>obtain ⟨z,its,r,⟨ob,e,c⟩,nd⟩:=x;exact⟨z,its,r,⟨ob,k _ _ (.inl rfl) e,c⟩,λo q=>by rw[k _ _ (.inl rfl) e] at q;cases q;exact nd _ e⟩
 |dK kvs=>obtain ⟨z,y,vs,r,ob,es,ep,e,c⟩:=x;exact⟨z,y,vs,r,ob,es,ep,k _ _ (.inl rfl) e,c⟩
 |dT kvs=>
  obtain⟨z,y,xs,r,ob,es,ep,e,c⟩:=x
  exact⟨z,y,xs,Paired.mapP r λp q z=>⟨z.1,ht _ _ z.2.1,z.2.2⟩,ob,es,ep,k _ _ (.inl rfl) e,c⟩
 |set S n=>obtain ⟨ob,es,ep,t,e,c⟩:=x;exact⟨ob,es,ep,t,k _ _ (.inl rfl) e,c⟩
 |ins C dx fs=>
  obtain⟨d,z,ne,e,mA,⟨od,es,ep,e2,c⟩,r⟩:=x
  exact⟨ho _ d,z,ne,k _ _ (.inl rfl) e,mA,⟨od,es,ep,k _ _ (.inr d) e2,c⟩,r⟩
 |own y=>obtain ⟨ob,e⟩:=x;exact⟨ob,k _ _ (.inl rfl) e⟩
 |xd fs=>obtain ⟨mA,⟨od,es,ep,e,c⟩,r⟩:=x;exact⟨mA,⟨od,es,ep,k _ _ (.inl rfl) e,c⟩,r⟩
 |rng lo hi=>obtain ⟨t,u,v,e⟩:=x;exact⟨t,u,v,k _ _ (.inl rfl) e⟩
 |frz ob u ih=>obtain ⟨e,q⟩:=x;exact⟨k _ _ (.inl rfl) e,ih q⟩
 |tbl ps=>
  have e:h.get? a=some {cls:= .none,data:= .fields ps}:=x
  show h'.get? a=some {cls:= .none,data:= .fields ps}
  exact k a _ (.inl rfl) e
 |met f y=>
  have e:h.get? a=some (PySem.W.methodObj (.ref f) (.ref y)):=x
  show h'.get? a=some (PySem.W.methodObj (.ref f) (.ref y))
  exact k a _ (.inl rfl) e
 |ext φ=>obtain ⟨p,⟨o,e⟩,st⟩:=x;exact⟨st _ _ p λo q=>k _ _ (.inl rfl) q,⟨o,k _ _ (.inl rfl) e⟩,st⟩
theorem HOk.lt(x:HOk P w H h)(e:H a=some o):a<h.objs.size:=(x a o e).lt
theorem HOk.fresh(x:HOk P w H h)(e:h.objs.size<=a):H a=none:=by
 cases q:H a with
 |none=>rfl
 |some u=>exact absurd (Nat.lt_of_lt_of_le (x.lt q) e) (Nat.lt_irrefl _)
theorem HOk.kept(x:HOk P w H h)(k:∀b u,h.get? b=some u->h'.get? b=some u):HOk P w H h':=λa o e=>
 (x a o e).stay (λb u _ q=>k b u q) (λ_ q=>q) λ_ _ q=>q
theorem HOk.laid(x:HOk P w H h)(k:∀b u,h.get? b=some u->h'.get? b=some u)(hp:h.objs.size<=a)(new:ObjOk P w (upd H a o) h' a o):HOk P w (upd H a o) h':=λb u e=>by
 have hn:=x.fresh hp
 by_cases hb:b=a
 ·subst hb;rw[zb] at e;cases e;exact new
 ·rw[ze hb] at e
  exact(x b u e).stay (λc v _ q=>k c v q) (λc q=>by rw[ze (zi q hn)];exact q) λc xs q=>by rw[ze (zi q hn)];exact q
end
def Rd(H:Hp)(a:Addr)(u:HO):Prop:=H a=some u\/∃o,H a=some (.frz o u)
theorem Rd.ok{P:Program}{w:World}{H:Hp}{h:Heap}{a:Addr}{u:HO}(r:Rd H a u)(x:HOk P w H h):ObjOk P w H h a u:=by
 rcases r with r|⟨o,r⟩
 ·exact x a u r
 ·obtain ⟨_,q⟩:=x a _ r
  exact q
def Mut:Option HO->Prop
 |some (.lst _)=>True
 |some (.dK _)=>True
 |some (.dT _)=>True
 |some (.set _ _)=>True
 |some (.ins _ _ _)=>True
 |some (.ext _)=>True
 |_=>False
section
variable{P:Program}{w:World}{H:Hp}{h h':Heap}{x e:Addr}{o':HO}
theorem HOk.write(ok:HOk P w H h)(mu:Mut (H x))(he:e=x\/H e=some (.own x))(k:∀b u,b≠e->h.get? b=some u->h'.get? b=some u)(heo:∃u,h'.get? e=some u)
 (new:ObjOk P w (upd H x o') h' x o'):HOk P w (upd H x o') h':=λb u q=>by
 have nown:∀c y,H c=some (.own y)->c≠x:=λc y r z=>by subst z;rw[r] at mu;exact mu
 have ntup:∀c xs,H c=some (.tup xs)->c≠x:=λc xs r z=>by subst z;rw[r] at mu;exact mu
 by_cases hb:b=x
 ·subst hb;rw[zb] at q;cases q;exact new
 ·rw[ze hb] at q
  by_cases hbe:b=e
  ·have q':H b=some (.own x):=by
    rcases he with z|z
    ·exact absurd (hbe.trans z) hb
    ·rw[hbe];exact z
   rw[q] at q';cases q'
   obtain⟨v,hv⟩:=heo
   exact⟨v,by rw[hbe];exact hv⟩
  ·refine (ok b u q).stay (λc v hc r=>k c v ?_ r) (λc r=>by rw[ze (nown c b r)];exact r) λc xs r=>by rw[ze (ntup c xs r)];exact r
   rcases hc with rfl|hc
   ·exact hbe
   ·rintro rfl
    rcases he with z|z
    ·exact nown c b hc z
    ·rw[hc] at z;cases z;exact hb rfl
end
structure Un(fs ex:List Addr)(H H':Hp)(h h':Heap):Prop where
 keep:∀b o,h.get? b=some o->H b=none->b∉fs->b∉ex->h'.get? b=some o
 slot:∀b o,h.get? b=some o->H b=none->b∈fs->b∉ex->∃sl,h'.get? b=some {o with slots:=sl}
 free:∀b o,h.get? b=some o->H b=none->b∉ex->H' b=none
 there:∀b o,h.get? b=some o->b∉ex->∃o',h'.get? b=some o'
 tups:∀b xs,H b=some (.tup xs)->H' b=some (.tup xs)
 frzs:∀b o u,H b=some (.frz o u)->H' b=some (.frz o u)
 tbls:∀b ps,H b=some (.tbl ps)->∃more,H' b=some (.tbl (ps ++more))
section
variable{fs fs' ex ex':List Addr}{H H1 H2:Hp}{h h1 h2 h':Heap}{a x e:Addr}{o:HO}
theorem Un.any(u:Un fs ex H H1 h h1){b:Addr}{ob:Obj}(q:h.get? b=some ob)(n:H b=none)(hx:b∉ex):∃sl,h1.get? b=some {ob with slots:=sl}:=by
 by_cases hb:b∈fs
 ·exact u.slot b ob q n hb hx
 ·exact ⟨ob.slots,u.keep b ob q n hb hx⟩
theorem Un.kept(k:∀b u,h.get? b=some u->h'.get? b=some u):Un fs ex H H h h':=
 ⟨λb ob q _ _ _=>k b ob q,λb ob q _ _ _=>⟨ob.slots,k b ob q⟩,λ_ _ _ n _=>n,λb ob q _=>⟨ob,k b ob q⟩,λ_ _ q=>q,λ_ _ _ q=>q,λ_ ps q=>⟨#[],by rw[q];simp⟩⟩
theorem Un.refl:Un fs ex H H h h:=Un.kept λ_ _ q=>q
theorem Un.laid(k:∀b u,h.get? b=some u->h'.get? b=some u)(hp:h.objs.size<=a)(hn:H a=none):Un fs ex H (upd H a o) h h' where
 keep:=λb u q _ _ _=>k b u q
 slot:=λb u q _ _ _=>⟨u.slots,k b u q⟩
 free:=λb u q n _=>by rw[ze (Nat.ne_of_lt (Nat.lt_of_lt_of_le (Heap.lt_size q) hp))];exact n
 there:=λb u q _=>⟨u,k b u q⟩
 tups:=λb xs q=>by rw[ze (zi q hn)];exact q
 frzs:=λb u xs q=>by rw[ze (zi q hn)];exact q
 tbls:=λb ps q=>⟨#[],by rw[ze (zi q hn),q];simp⟩
theorem Un.write(mu:Mut (H x))(he:e=x\/H e=some (.own x))(k:∀b u,b≠e->h.get? b=some u->h'.get? b=some u)(heo:∃u,h'.get? e=some u):Un fs ex H (upd H x o) h h':=by
 have hx:∀b,H b=none->b≠x:=λb n z=>by subst z;rw[n] at mu;exact mu
 have hb:∀b,H b=none->b≠e:=λb n z=>by
  subst z
  rcases he with r|r
  ·exact hx b n r
  ·rw[n] at r;cases r
 have hm:∀b u,H b=some u->¬Mut (some u)->b≠x:=λb u q nm z=>by subst z;rw[q] at mu;exact nm mu
 refine⟨λb u q n _ _=>k b u (hb b n) q,λb u q n _ _=>⟨u.slots,k b u (hb b n) q⟩,λb u q n _=>by rw[ze (hx b n)];exact n,λb u q _=>?_,
  λb xs q=>by rw[ze (hm b _ q λz=>z)];exact q,λb u xs q=>by rw[ze (hm b _ q λz=>z)];exact q,λb ps q=>⟨#[],by rw[ze (hm b _ q λz=>z),q];simp⟩⟩
 by_cases hbe:b=e
 ·subst hbe;exact heo
 ·exact ⟨u,k b u hbe q⟩
end
def trk(h:Heap)(H:Hp):List Addr:=(List.range h.objs.size).filter λa=>(H a).isSome
def zf5(h:Heap)(H:Hp):Heap:=PySem.W.hideAll h (trk h H)
theorem zjr(h:Heap)(H:Hp):(zf5 h H).objs.size=h.objs.size:=PySem.W.hideAll_size _ _
theorem zko{h:Heap}{H:Hp}{b:Addr}{o:Obj}(e:h.get? b=some o)(n:H b=none):(zf5 h H).get? b=some o:=
 PySem.W.hideAll_get _ e λhm=>by
  have q:(H b).isSome=true:=(List.mem_filter.mp hm).2
  rw[n] at q;simp at q
theorem zm9{h:Heap}{H:Hp}{b:Addr}{o:Obj}(e:(zf5 h H).get? b=some o):h.get? b=some o/\H b=none:=by
 have e':h.get? b=some o:=PySem.W.of_hideAll (trk h H) e
 refine⟨e',?_⟩
 cases q:H b with
 |none=>rfl
 |some x=>
  have hm:b∈trk h H:=List.mem_filter.mpr ⟨List.mem_range.mpr (Heap.lt_size e'),by simp[q]⟩
  have z:(zf5 h H).get? b=none:=PySem.W.hideAll_none (trk h H) hm
  rw[z] at e;cases e
structure Mod(K:PySem.W.Frag)(mg:Str->Option Value)(base:Heap):Prop where
 kin:K.In base
 glob:base.Ns mainGlobals mg
 blt:∃mb,base.Ns builtinsNs mb/\∀x:Str,x≠"__name__"->mb x=bootBuiltins x
 nolimit:base.NoLimit
structure Cx where
 prog:Program
 w:World
 K:PySem.W.Frag
 mg:Str->Option Value
 base:Heap
 A:Around
 N:List Str
 s₀:Shared
 H₀:Hp
 env:Env
 outer:List Env
 stack:List Env
 ex:List Addr
 fn:Str->Bool
 calm:Bool
 pn:List (Addr×Obj)
 xe:Value->Shared->Prop
def frs(l:List Env):List Addr:=l.filterMap (·.frame)
abbrev Cx.fs(X:Cx):List Addr:=frs X.outer
def Vis(sc:Scope)(x:Str):Prop:=sc.names.lookup x=some .local\/sc.names.lookup x=some .cell\/sc.names.lookup x=some .free
def Loc(sc:Scope)(x:Str):Prop:=sc.names.lookup x=some .local\/sc.names.lookup x=some .cell
def zqh(env:Env)(h:Heap)(m:Str->Option Value)(x:Str)(u:Value):Prop:=
 (env.kindOf x=some .local/\m x=some u)\/((env.kindOf x=some .cell\/env.kindOf x=some .free)/\∃c,env.cells.lookup x=some c/\h.IsCell c (some u))
structure Cx.Ok(X:Cx):Prop where
 mod:Mod X.K X.mg X.base
 kind:X.env.scope.kind= .function
 glob:X.env.globals=mainGlobals
 blt:X.env.builtins=builtinsNs
 above:X.s₀.heap.objs.size<=X.env.locals
 inj:∀x y c,X.env.cells.lookup x=some c->X.env.cells.lookup y=some c->x=y
 has:∀x,(X.env.kindOf x=some .cell\/X.env.kindOf x=some .free)->∃c,X.env.cells.lookup x=some c
 cab:∀x c,X.fn x=true->X.env.cells.lookup x=some c->X.s₀.heap.objs.size<=c
 hd:X.calm=true->X.A.handled=none
 frames:X.A.frames=some X.stack
 stk:X.stack=X.outer\/(X.stack=X.env::X.outer/\X.env.frame=some X.env.locals)
 exf:∀b∈X.ex,b≠X.env.locals/\∀x c,X.env.cells.lookup x=some c->c≠b
 bs:∀b o,X.base.get? b=some o->X.s₀.heap.get? b=some o/\X.H₀ b=none
 bsz:X.base.objs.size<=X.s₀.heap.objs.size
 noex:∀b o,X.base.get? b=some o->b∉X.ex
 exfs:∀b∈X.ex,b∉X.fs
 funs:X.s₀.heap.FunFrames X.base X.outer
 frf:∀b∈X.fs,X.H₀ b=none
structure Inv(X:Cx)(pins:List (Addr×Obj))(σ:List (Option V))(H:Hp)(s:Shared):Prop where
 ok:X.Ok
 os:s.os=X.s₀.os
 bare:AllBare s.gens
 base:Un X.fs X.ex X.H₀ H X.s₀.heap s.heap
 loc:∃m,s.heap.Ns X.env.locals m/\∀(i:Nat) (x:Str) (v:V),X.N[i]?=some x->σ[i]?=some (some v)->Vis X.env.scope x->∃u,RelV v u/\zqh X.env s.heap m x u
 cell:∀x c,X.env.cells.lookup x=some c->∃v,s.heap.IsCell c v
 free:H X.env.locals=none
 freeC:∀x c,X.env.cells.lookup x=some c->H c=none
 pin:∀p∈X.pn ++pins,s.heap.get? p.1=some p.2/\H p.1=none/\p.1≠X.env.locals/\p.1∉X.fs/\∀v,p.2.data≠ .cell v
 hok:HOk X.prog X.w H s.heap
 len:σ.length=X.N.length
section
variable{X:Cx}{pins:List (Addr×Obj)}{σ:List (Option V)}{H H':Hp}{s:Shared}{h':Heap}
theorem Cx.Ok.nofr(ok:X.Ok){b:Addr}{o:Obj}(e:X.base.get? b=some o):b∉X.fs:=λhb=>by
 have:=(ok.funs.mem hb).1
 rw[e] at this;cases this
theorem Inv.bs(I:Inv X pins σ H s):∀b o,X.base.get? b=some o->s.heap.get? b=some o/\H b=none:=λb o e=>
 ⟨I.base.keep b o (I.ok.bs b o e).1 (I.ok.bs b o e).2 (I.ok.nofr e) (I.ok.noex b o e),I.base.free b o (I.ok.bs b o e).1 (I.ok.bs b o e).2 (I.ok.noex b o e)⟩
theorem Inv.bk(I:Inv X pins σ H s):∀b o,X.base.get? b=some o->s.heap.get? b=some o:=λb o e=>(I.bs b o e).1
theorem Inv.mod(I:Inv X pins σ H s):Mod X.K X.mg X.base:=I.ok.mod
theorem Inv.kIn(I:Inv X pins σ H s):X.K.In s.heap:=I.ok.mod.kin.keeps I.bk
theorem Inv.lt(I:Inv X pins σ H s):X.env.locals<s.heap.objs.size:=let⟨_,hn,_⟩:=I.loc;hn.lt
theorem Inv.sz(I:Inv X pins σ H s):X.s₀.heap.objs.size<=s.heap.objs.size:=Nat.le_trans I.ok.above (Nat.le_of_lt I.lt)
theorem Inv.nofs(I:Inv X pins σ H s){a:Addr}(h:s.heap.objs.size<=a):a∉X.fs:=λhb=>by
 obtain⟨_,o,ho,_⟩:=I.ok.funs.mem hb
 exact absurd (Nat.lt_of_lt_of_le (Heap.lt_size ho) (Nat.le_trans I.sz h)) (Nat.lt_irrefl _)
theorem Inv.cne(I:Inv X pins σ H s):∀x c,X.env.cells.lookup x=some c->c≠X.env.locals:=λx c e z=>by
 obtain⟨v,o,ho,hd⟩:=I.cell x c e
 obtain⟨m,⟨o',es,ep,ho',hd',_⟩,_⟩:=I.loc
 rw[z,ho'] at ho;cases ho;rw[hd'] at hd;cases hd
theorem Inv.funs(I:Inv X pins σ H s):s.heap.FunFrames X.base X.outer:=by
 have all:∀(l:List Env),(∀b∈frs l,b∈X.fs)->X.s₀.heap.FunFrames X.base l->s.heap.FunFrames X.base l:=by
  intro l
  induction l with
  |nil=>intro _ _;trivial
  |cons env r ih=>
   intro hs hl
   obtain⟨hk,⟨L,o,hf,hn,ho,hd⟩,hr⟩:=hl
   have hL:L∈X.fs:=hs L (by unfold frs;rw[List.filterMap_cons,hf];exact List.mem_cons_self)
   obtain⟨sl,e⟩:=I.base.slot L o ho (I.ok.frf L hL) hL λz=>I.ok.exfs L z hL
   exact⟨hk,⟨L,_,hf,hn,e,hd⟩,ih (λb hb=>hs b (by unfold frs;rw[List.filterMap_cons,hf];exact List.mem_cons_of_mem _ hb)) hr⟩
 exact all X.outer (λ_ hb=>hb) I.ok.funs
theorem Inv.stack(I:Inv X pins σ H s):s.heap.FunFrames X.base X.stack:=by
 rcases I.ok.stk with e|⟨e,hf⟩
 ·rw[e];exact I.funs
 ·rw[e]
  obtain⟨m,hn,_⟩:=I.loc
  refine .cons (by rw[I.ok.kind];decide) hf hn ?_ I.funs
  exact Heap.get?_none_of_le (Nat.le_trans I.ok.bsz I.ok.above)
theorem Inv.stkSub(I:Inv X pins σ H s):∀b∈frs X.stack,b∈X.env.locals::X.fs:=λb hb=>by
 rcases I.ok.stk with e|⟨e,hf⟩
 ·rw[e] at hb;exact List.mem_cons_of_mem _ hb
 ·rw[e] at hb
  unfold frs at hb
  rw[List.filterMap_cons,hf] at hb
  exact hb
theorem Inv.stkFree(I:Inv X pins σ H s):∀b∈frs X.stack,H b=none:=λb hb=>by
 rcases List.mem_cons.mp (I.stkSub b hb)with e|hb
 ·rw[e];exact I.free
 ·obtain ⟨_,o,ho,_⟩:=I.ok.funs.mem hb
  exact I.base.free b o ho (I.ok.frf b hb) λz=>I.ok.exfs b z hb
theorem Inv.step{g':Array GenState}{t':Nat}{d':Drawn}{ch:List Addr}(I:Inv X pins σ H s)
 (hch:∀b∈ch,(b∈X.ex\/X.s₀.heap.objs.size<=b)/\b≠X.env.locals/\(∀x c,X.env.cells.lookup x=some c->c≠b)/\∀p∈X.pn ++pins,p.1≠b)
 (keep:∀b o,b≠X.env.locals->b∉X.fs->b∉ch->s.heap.get? b=some o->H b=none->h'.get? b=some o)
 (slot:∀b o,b≠X.env.locals->b∈X.fs->b∉ch->s.heap.get? b=some o->H b=none->∃sl,h'.get? b=some {o with slots:=sl}) (free:∀b o,b∉ch->s.heap.get? b=some o->H b=none->H' b=none)
 (there:∀b o,b∉ch->s.heap.get? b=some o->∃o',h'.get? b=some o')
 (tups:∀b xs,H b=some (.tup xs)->H' b=some (.tup xs)) (frzs:∀b o u,H b=some (.frz o u)->H' b=some (.frz o u)) (tbls:∀b ps,H b=some (.tbl ps)->∃more,H' b=some (.tbl (ps ++more)))
 (ns:∀m,s.heap.Ns X.env.locals m->h'.Ns X.env.locals m) (hok:HOk X.prog X.w H' h') (hg:AllBare g'):
 Inv X pins σ H' {s with heap:=h',gens:=g',drawn:=d',toks:=t'}:=by
 have neL:∀b o,X.s₀.heap.get? b=some o->b≠X.env.locals:=λb o e=>Nat.ne_of_lt (Nat.lt_of_lt_of_le (Heap.lt_size e) I.ok.above)
 have neC:∀b o,X.s₀.heap.get? b=some o->b∉X.ex->b∉ch:=λb o e hx hb=>by
  rcases(hch b hb).1 with z|z
  ·exact hx z
  ·exact absurd (Nat.lt_of_lt_of_le (Heap.lt_size e) z) (Nat.lt_irrefl _)
 have cellK:∀x c,X.env.cells.lookup x=some c->∀v,s.heap.IsCell c v->h'.IsCell c v:=λx c e v ⟨o,ho,hd⟩=>by
  have nch:c∉ch:=λz=>(hch c z).2.2.1 x c e rfl
  by_cases hc:c∈X.fs
  ·obtain ⟨sl,q⟩:=slot c o (I.cne x c e) hc nch ho (I.freeC x c e)
   exact⟨_,q,hd⟩
  ·exact ⟨o,keep c o (I.cne x c e) hc nch ho (I.freeC x c e),hd⟩
 refine⟨I.ok,I.os,hg,⟨λb o e n hb hx=>?_,λb o e n hb hx=>?_,λb o e n hx=>?_,λb o e hx=>?_,λb xs e=>tups b xs (I.base.tups b xs e),λb o xs e=>frzs b o xs (I.base.frzs b o xs e),λb ps e=>?_⟩,?_,λx c e=>?_,?_,λx c e=>?_,λp hp=>?_,hok,I.len⟩
 ·exact keep b o (neL b o e) hb (neC b o e hx) (I.base.keep b o e n hb hx) (I.base.free b o e n hx)
 ·obtain ⟨sl,e1⟩:=I.base.slot b o e n hb hx
  obtain⟨sl',e2⟩:=slot b _ (neL b o e) hb (neC b o e hx) e1 (I.base.free b o e n hx)
  exact⟨sl',e2⟩
 ·obtain ⟨o',e1⟩:=I.base.there b o e hx
  exact free b o' (neC b o e hx) e1 (I.base.free b o e n hx)
 ·obtain ⟨o',e1⟩:=I.base.there b o e hx
  exact there b o' (neC b o e hx) e1
 ·obtain ⟨m1,e1⟩:=I.base.tbls b ps e
  obtain⟨m2,e2⟩:=tbls b _ e1
  exact⟨m1 ++m2,by rw[e2,Array.append_assoc]⟩
 ·obtain ⟨m,hn,hl⟩:=I.loc
  refine⟨m,ns m hn,λi x v e1 e2 e3=>?_⟩
  obtain⟨u,r,l⟩:=hl i x v e1 e2 e3
  refine⟨u,r,?_⟩
  rcases l with l|⟨k,c,e,z⟩
  ·exact .inl l
  ·exact .inr ⟨k,c,e,cellK x c e _ z⟩
 ·obtain ⟨v,z⟩:=I.cell x c e
  exact⟨v,cellK x c e v z⟩
 ·obtain ⟨m,⟨o,_,_,ho,_⟩,_⟩:=I.loc
  exact free _ o (λz=>(hch _ z).2.1 rfl) ho I.free
 ·obtain ⟨v,o,ho,hd⟩:=I.cell x c e
  exact free c o (λz=>(hch c z).2.2.1 x c e rfl) ho (I.freeC x c e)
 ·obtain ⟨e,n,ne,nf,d⟩:=I.pin p hp
  have nch:p.1∉ch:=λz=>(hch p.1 z).2.2.2 p hp rfl
  exact⟨keep p.1 p.2 ne nf nch e n,free p.1 p.2 nch e n,ne,nf,d⟩
theorem Inv.un{t':Nat}(I:Inv X pins σ H s)(u:Un X.fs [] H H' s.heap h')(hok:HOk X.prog X.w H' h'):Inv X pins σ H' {s with heap:=h',toks:=t'}:=by
 obtain⟨m,⟨o,es,ep,ho,r⟩,_⟩:=id I.loc
 obtain⟨sl,hL⟩:=u.any ho I.free (by simp)
 exact I.step (g':=s.gens) (d':=s.drawn) (ch:=[]) (λ_ z=>nomatch z) (λb o _ hb _ e n=>u.keep b o e n hb (by simp)) (λb o _ hb _ e n=>u.slot b o e n hb (by simp)) (λb o _ e n=>u.free b o e n (by simp)) (λb o _ e=>u.there b o e (by simp)) u.tups u.frzs u.tbls (λm' hm=>by
  obtain⟨o',es',ep',ho',r'⟩:=hm
  rw[ho] at ho';cases ho'
  exact⟨_,es',ep',hL,r'⟩) hok I.bare
theorem Inv.call{g':Array GenState}{t':Nat}{d':Drawn}{ch:List Addr}(I:Inv X pins σ H s)(u:Un (frs X.stack) ch H H' s.heap h')(hok:HOk X.prog X.w H' h')(hg:AllBare g')
 (hch:∀b∈ch,(b∈X.ex\/X.s₀.heap.objs.size<=b)/\b≠X.env.locals/\(∀x c,X.env.cells.lookup x=some c->c≠b)/\∀p∈X.pn ++pins,p.1≠b):
 Inv X pins σ H' {s with heap:=h',gens:=g',drawn:=d',toks:=t'}:=by
 obtain⟨m,⟨o,es,ep,ho,r⟩,_⟩:=id I.loc
 obtain⟨sl,hL⟩:=u.any ho I.free λz=>(hch _ z).2.1 rfl
 exact I.step (ch:=ch) hch (λb o hL hb hc e n=>u.keep b o e n (λz=>(List.mem_cons.mp (I.stkSub b z)).elim hL hb) hc) (λb o _ _ hc e n=>u.any e n hc) (λb o hc e n=>u.free b o e n hc) (λb o hc e=>u.there b o e hc) u.tups u.frzs u.tbls (λm' hm=>by
  obtain⟨o',es',ep',ho',r'⟩:=hm
  rw[ho] at ho';cases ho'
  exact⟨_,es',ep',hL,r'⟩) hok hg
theorem Inv.turned{t':Nat}{it:Addr}(I:Inv X pins σ H s)(k:∀b o,b≠it->s.heap.get? b=some o->h'.get? b=some o)(hn:H it=none)(hL:it≠X.env.locals)
 (h1:it∈X.ex\/X.s₀.heap.objs.size<=it) (h2:∀x c,X.env.cells.lookup x=some c->c≠it) (h3:∀p∈X.pn ++pins,p.1≠it):Inv X pins σ H {s with heap:=h',toks:=t'}:=by
 have nit:∀b u,H b=some u->b≠it:=λb u e z=>by rw[z,hn] at e;cases e
 refine I.step (g':=s.gens) (d':=s.drawn) (ch:=[it]) (λb hb=>?_) (λb o _ _ hc e _=>k b o (λz=>hc (by simp[z])) e) (λb o _ _ hc e _=>⟨o.slots,k b o (λz=>hc (by simp[z])) e⟩) (λ_ _ _ _ n=>n)
  (λb o hc e=>⟨o,k b o (λz=>hc (by simp[z])) e⟩) (λ_ _ e=>e) (λ_ _ _ e=>e) (λb ps e=>⟨#[],by rw[e];simp⟩) (λm hm=>?_) (λb u e=>?_) I.bare
 ·have e:b=it:=by simpa using hb
  subst e
  exact⟨h1,hL,h2,h3⟩
 ·obtain ⟨o,es,ep,ho,r⟩:=hm
  exact⟨o,es,ep,k _ o (Ne.symm hL) ho,r⟩
 ·refine (I.hok b u e).stay (λc v hc q=>k c v ?_ q) (λ_ q=>q) λ_ _ q=>q
  rcases hc with z|z
  ·rw[z];exact nit b u e
  ·exact nit c _ z
theorem Inv.tok(I:Inv X pins σ H s)(t:Nat):Inv X pins σ H {s with toks:=t}:=I.un (h':=s.heap) (t':=t) Un.refl I.hok
theorem Inv.kept{t':Nat}(I:Inv X pins σ H s)(k:∀b u,s.heap.get? b=some u->h'.get? b=some u):Inv X pins σ H {s with heap:=h',toks:=t'}:=I.un (Un.kept k) (I.hok.kept k)
theorem Inv.laid{a:Addr}{o:HO}{t':Nat}(I:Inv X pins σ H s)(k:∀b u,s.heap.get? b=some u->h'.get? b=some u)(hp:s.heap.objs.size<=a)(new:ObjOk X.prog X.w (upd H a o) h' a o):
 Inv X pins σ (upd H a o) {s with heap:=h',toks:=t'}:=I.un (Un.laid k hp (I.hok.fresh hp)) (I.hok.laid k hp new)
theorem Inv.write{x e:Addr}{o:HO}{t':Nat}(I:Inv X pins σ H s)(mu:Mut (H x))(he:e=x\/H e=some (.own x))(k:∀b u,b≠e->s.heap.get? b=some u->h'.get? b=some u)(heo:∃u,h'.get? e=some u)
 (new:ObjOk X.prog X.w (upd H x o) h' x o):Inv X pins σ (upd H x o) {s with heap:=h',toks:=t'}:=I.un (Un.write mu he k heo) (I.hok.write mu he k heo new)
theorem Inv.pins_of{pins':List (Addr×Obj)}(I:Inv X pins σ H s)(h:∀p∈pins',s.heap.get? p.1=some p.2/\H p.1=none/\p.1≠X.env.locals/\p.1∉X.fs/\∀v,p.2.data≠ .cell v):Inv X pins' σ H s:=
 ⟨I.ok,I.os,I.bare,I.base,I.loc,I.cell,I.free,I.freeC,λp hp=>(List.mem_append.mp hp).elim (λz=>I.pin p (List.mem_append_left _ z)) (h p),I.hok,I.len⟩
theorem zg0{N:List Str}(hN:N.Nodup){i j:Nat}{x:Str}(a:N[i]?=some x)(b:N[j]?=some x):i=j:=by
 obtain⟨h1,e1⟩:=List.getElem?_eq_some_iff.mp a
 obtain⟨h2,e2⟩:=List.getElem?_eq_some_iff.mp b
 exact(List.getElem_inj hN).mp (e1.trans e2.symm)
theorem zjk{M:Model}{A:Around}{E:Value->Shared->Prop}{i:Nat}{x:Str}{v:V}{u:Value}{Q:Unit->Shared->Prop}(I:Inv X pins σ H s)(hN:X.N.Nodup)(hi:X.N[i]?=some x)(hx:Loc X.env.scope x)(r:RelV v u)
 (h:∀s',Inv X pins (σ.set i (some v)) H s'->(∃a,Heap.SameBut a s.heap s'.heap/\(a=X.env.locals\/X.env.cells.lookup x=some a))->Q () s') (hf:X.fn x=true\/X.env.scope.names.lookup x=some .local:=by first|exact .inl rfl|exact .inr rfl|assumption):wpAny M A (storeName X.env x u) Q E s:=by
 obtain⟨m,hn,hl⟩:=id I.loc
 have hcls:(X.env.scope.kind== .class||(X.env.scope.kind== .module&&X.env.locals !=X.env.globals))=false:=by rw[I.ok.kind];rfl
 have hiσ:i<σ.length:=by rw[I.len];exact(List.getElem?_eq_some_iff.mp hi).1
 have cne:=I.cne
 have tracked:∀{a:Addr} {h':Heap},(∃o,s.heap.get? a=some o/\H a=none)->Heap.SameBut a s.heap h'->HOk X.prog X.w H h':=λ{a h'} ha hs b ob e=>by
  obtain⟨_,_,hfree⟩:=ha
  refine(I.hok b ob e).stay (λc w' hc q=>(hs.2 c ?_).trans q) (λ_ q=>q) λ_ _ q=>q
  rintro rfl
  rcases hc with rfl|hc
  ·rw[hfree] at e;cases e
  ·rw[hfree] at hc;cases hc
 rcases hx with hk|hk
 ·refine wpAny_storeName_local hk hn (λh' hn' hs=>?_) hcls
  obtain⟨oL,_,_,hoL,_⟩:=id hn
  refine h _ ⟨I.ok,I.os,I.bare,⟨λb o e n hb hx=>?_,λb o e n hb hx=>?_,I.base.free,λb o e hx=>?_,I.base.tups,I.base.frzs,I.base.tbls⟩,⟨_,hn',λj y v' e1 e2 e3=>?_⟩,λy c e=>?_,I.free,I.freeC,λp hp=>?_,tracked ⟨oL,hoL,I.free⟩ hs,by simpa using I.len⟩ ⟨_,hs, .inl rfl⟩
  ·exact (hs.2 b (Nat.ne_of_lt (Nat.lt_of_lt_of_le (Heap.lt_size e) I.ok.above))).trans (I.base.keep b o e n hb hx)
  ·obtain ⟨sl,e1⟩:=I.base.slot b o e n hb hx
   exact⟨sl,(hs.2 b (Nat.ne_of_lt (Nat.lt_of_lt_of_le (Heap.lt_size e) I.ok.above))).trans e1⟩
  ·obtain ⟨o',e1⟩:=I.base.there b o e hx
   exact⟨o',(hs.2 b (Nat.ne_of_lt (Nat.lt_of_lt_of_le (Heap.lt_size e) I.ok.above))).trans e1⟩
  ·by_cases hj:j=i
   ·subst hj
    rw[hi] at e1;cases e1
    rw[List.getElem?_set_self hiσ] at e2
    cases e2
    exact⟨u,r, .inl ⟨hk,by simp⟩⟩
   ·rw[List.getElem?_set_ne (Ne.symm hj)] at e2
    obtain⟨u',r',q⟩:=hl j y v' e1 e2 e3
    refine⟨u',r',?_⟩
    rcases q with⟨k,e⟩|⟨k,c,e,z⟩
    ·refine .inl ⟨k,?_⟩
     have:y≠x:=λe=>hj (zg0 hN e1 (e▸hi))
     simp[this,e]
    ·exact .inr ⟨k,c,e,z.sameBut hs (cne y c e)⟩
  ·obtain ⟨w',z⟩:=I.cell y c e
   exact⟨w',z.sameBut hs (cne y c e)⟩
  ·obtain ⟨e,n,ne,nf,d⟩:=I.pin p hp
   exact⟨(hs.2 p.1 ne).trans e,n,ne,nf,d⟩
 ·have hfn:X.fn x=true:=by
   rcases hf with z|z
   ·exact z
   ·rw[z] at hk;cases hk
  obtain⟨c,hc⟩:=I.ok.has x (.inl hk)
  obtain⟨w',z⟩:=I.cell x c hc
  refine wpAny_storeName_cell I.ok.kind hk hc z (λh' hc' hs=>?_)
  obtain⟨oc,hoc,hocd⟩:=id z
  refine h {s with heap:=h'} ⟨I.ok,I.os,I.bare,⟨λb o e n hb hx=>?_,λb o e n hb hx=>?_,I.base.free,λb o e hx=>?_,I.base.tups,I.base.frzs,I.base.tbls⟩,⟨m,hn.sameBut hs (Ne.symm (cne x c hc)),λj y v' e1 e2 e3=>?_⟩,λy c' e=>?_,I.free,I.freeC,λp hp=>?_,tracked ⟨oc,hoc,I.freeC x c hc⟩ hs,by simpa using I.len⟩ ⟨c,hs, .inr hc⟩
  ·exact (hs.2 b (Nat.ne_of_lt (Nat.lt_of_lt_of_le (Heap.lt_size e) (I.ok.cab x c hfn hc)))).trans (I.base.keep b o e n hb hx)
  ·obtain ⟨sl,e1⟩:=I.base.slot b o e n hb hx
   exact⟨sl,(hs.2 b (Nat.ne_of_lt (Nat.lt_of_lt_of_le (Heap.lt_size e) (I.ok.cab x c hfn hc)))).trans e1⟩
  ·obtain ⟨o',e1⟩:=I.base.there b o e hx
   exact⟨o',(hs.2 b (Nat.ne_of_lt (Nat.lt_of_lt_of_le (Heap.lt_size e) (I.ok.cab x c hfn hc)))).trans e1⟩
  ·by_cases hj:j=i
   ·subst hj
    rw[hi] at e1;cases e1
    rw[List.getElem?_set_self hiσ] at e2
    cases e2
    exact⟨u,r, .inr ⟨.inl hk,c,hc,hc'⟩⟩
   ·rw[List.getElem?_set_ne (Ne.symm hj)] at e2
    obtain⟨u',r',q⟩:=hl j y v' e1 e2 e3
    refine⟨u',r',?_⟩
    rcases q with q|⟨k,c',e,z'⟩
    ·exact .inl q
    ·refine .inr ⟨k,c',e,z'.sameBut hs ?_⟩
     rintro rfl
     exact hj (zg0 hN e1 (I.ok.inj _ _ _ e hc▸hi))
  ·by_cases hcc:c'=c
   ·subst hcc;exact⟨_,hc'⟩
   ·obtain ⟨w2,z2⟩:=I.cell y c' e
    exact⟨w2,z2.sameBut hs hcc⟩
  ·obtain ⟨e,n,ne,nf,d⟩:=I.pin p hp
   refine⟨(hs.2 p.1 ?_).trans e,n,ne,nf,d⟩
   intro q
   rw[q,hoc] at e
   have q':oc=p.2:=Option.some.inj e
   exact d w' (by rw[←q'];exact hocd)
theorem zcC{M:Model}{A:Around}{E:Value->Shared->Prop}{i:Nat}{x:Str}{v:V}{u:Value}{Q:Unit->Shared->Prop}(I:Inv X pins σ H s)(hN:X.N.Nodup)(hi:X.N[i]?=some x)(hx:Loc X.env.scope x)(r:RelV v u)
 (h:∀s',Inv X pins (σ.set i (some v)) H s'->Q () s') (hf:X.fn x=true\/X.env.scope.names.lookup x=some .local:=by first|exact .inl rfl|exact .inr rfl|assumption):wpAny M A (storeName X.env x u) Q E s:=
 zjk I hN hi hx r (λs' I' _=>h s' I') hf
theorem Inv.call'{s':Shared}{ch:List Addr}(I:Inv X pins σ H s)(ho:s'.os=s.os)(u:Un (frs X.stack) ch H H' s.heap s'.heap)(hok:HOk X.prog X.w H' s'.heap)(hg:AllBare s'.gens)
 (hch:∀b∈ch,(b∈X.ex\/X.s₀.heap.objs.size<=b)/\b≠X.env.locals/\(∀x c,X.env.cells.lookup x=some c->c≠b)/\∀p∈X.pn ++pins,p.1≠b):Inv X pins σ H' s':=by
 obtain⟨h',g',d',t',o'⟩:=s'
 have e:o'=s.os:=ho
 subst e
 exact I.call (g':=g') (t':=t') (d':=d') u hok hg hch
end
abbrev XK:=Value->Option Addr->Hp->Prop
abbrev St:=List (Option V)
abbrev VK:=V->Hp->Prop
abbrev TE:=St->Hp->VK->Prop
abbrev TT:=St->Hp->(Bool->Hp->Prop)->Prop
abbrev TA:=St->Hp->(List V->Hp->Prop)->Prop
structure Ends where
 nx:St->Hp->Prop
 rt:VK
 bk:St->Hp->Prop:=λ_ _=>False
 ct:St->Hp->Prop:=λ_ _=>False
abbrev TS:=Ends->St->Hp->Prop
def EP(X:Cx)(pins:List (Addr×Obj))(σ:St)(Q:VK)(u:Value)(s':Shared):Prop:=∃v H',Inv X pins σ H' s'/\RelV v u/\Q v H'
def TP(X:Cx)(pins:List (Addr×Obj))(σ:St)(Q:Bool->Hp->Prop)(b:Bool)(s':Shared):Prop:=∃H',Inv X pins σ H' s'/\Q b H'
def AP(X:Cx)(pins:List (Addr×Obj))(σ:St)(Q:List V->Hp->Prop)(us:List Value)(s':Shared):Prop:=∃vs H',Inv X pins σ H' s'/\Vals vs us/\Q vs H'
def SP(X:Cx)(pins:List (Addr×Obj))(D:Ends)(f:Flow)(s':Shared):Prop:=
 match f with
 | .next=>∃σ' H',Inv X pins σ' H' s'/\D.nx σ' H'
 | .brk=>∃σ' H',Inv X pins σ' H' s'/\D.bk σ' H'
 | .cont=>∃σ' H',Inv X pins σ' H' s'/\D.ct σ' H'
 | .ret u=>∃v σ' H',Inv X pins σ' H' s'/\RelV v u/\D.rt v H'
def PE(X:Cx)(e:Expr)(t:TE):Prop:=
 ∀(pins:List (Addr×Obj)) (s:Shared) (σ:St) (H:Hp) (Q:VK),Inv X pins σ H s->t σ H Q->wpAny (model X.prog X.w) X.A (eval e X.env) (EP X pins σ Q) X.xe s
def PT(X:Cx)(e:Expr)(t:TT):Prop:=
 ∀(pins:List (Addr×Obj)) (s:Shared) (σ:St) (H:Hp) (Q:Bool->Hp->Prop),Inv X pins σ H s->t σ H Q->wpAny (model X.prog X.w) X.A (isTrue e X.env (eval e X.env)) (TP X pins σ Q) X.xe s
def PW(X:Cx)(e:Expr)(t:TT):Prop:=
 ∀(whole:Sem Value) (pins:List (Addr×Obj)) (s:Shared) (σ:St) (H:Hp) (Q:Bool->Hp->Prop),Inv X pins σ H s->t σ H Q->wpAny (model X.prog X.w) X.A (isTrue e X.env whole) (TP X pins σ Q) X.xe s
theorem PW.pt{X:Cx}{e:Expr}{t:TT}(h:PW X e t):PT X e t:=h _
def PA(X:Cx)(es:List Expr)(t:TA):Prop:=
 ∀(pos:Pos) (pins:List (Addr×Obj)) (s:Shared) (σ:St) (H:Hp) (Q:List V->Hp->Prop),Inv X pins σ H s->t σ H Q->wpAny (model X.prog X.w) X.A (spliced (backTo pos (starEach es X.env))) (AP X pins σ Q) X.xe s
def PS(X:Cx)(st:Stmt)(t:TS):Prop:=
 ∀(pins:List (Addr×Obj)) (s:Shared) (σ:St) (H:Hp) (D:Ends),Inv X pins σ H s->t D σ H->wpAny (model X.prog X.w) X.A (exec st X.env) (SP X pins D) X.xe s
def PSs(X:Cx)(st:List Stmt)(t:TS):Prop:=
 ∀(pins:List (Addr×Obj)) (s:Shared) (σ:St) (H:Hp) (D:Ends),Inv X pins σ H s->t D σ H->wpAny (model X.prog X.w) X.A (execs st X.env) (SP X pins D) X.xe s
theorem thn{α:Type}{t:Sem α}{Q Q':α->Shared->Prop}{M:Model}{A:Around}{E:Value->Shared->Prop}{s:Shared}(h:wpAny M A t Q E s)(hQ:∀a s,Q a s->Q' a s):wpAny M A t Q' E s:=wpAny_mono h hQ λ_ _ x=>x
section
variable{X:Cx}
theorem bin{a b:Expr}{ta tb:TE}(ha:PE X a ta)(hb:PE X b tb){pins:List (Addr×Obj)}{s:Shared}{σ:St}{H:Hp}{R:V->V->Hp->Prop}(I:Inv X pins σ H s)(h:ta σ H λx H1=>tb σ H1 λy H2=>R x y H2)
 {α:Type} {Q:α->Shared->Prop} {f:Value->Value->Sem α}
 (hf:∀v u s2 x y H2,Inv X pins σ H2 s2->RelV x v->RelV y u->R x y H2->wpAny (model X.prog X.w) X.A (f v u) Q X.xe s2):
 wpAny (model X.prog X.w) X.A (eval a X.env) (λv s₁=>wpAny (model X.prog X.w) X.A (eval b X.env) (λu s₂=>wpAny (model X.prog X.w) X.A (f v u) Q X.xe s₂) X.xe s₁) X.xe s:=by
 refine thn (ha pins s σ H _ I h) λv s1 ⟨x,H1,I1,r1,q1⟩=>?_
 refine thn (hb pins s1 σ H1 _ I1 q1) λu s2 ⟨y,H2,I2,r2,q2⟩=>?_
 exact hf v u s2 x y H2 I2 r1 r2 q2
def zmN(i:Nat):TE:=λσ H Q=>∃v,σ[i]?=some (some v)/\Q v H
def tC(v:V):TE:=λ_ H Q=>Q v H
theorem zln{i:Nat}{x:Str}{pos:Pos}(hN:X.N[i]?=some x)(hv:Vis X.env.scope x)(hd:(x==("__debug__":Str))=false:=by decide)(hcd:(x==("__classdict__":Str))=false:=by decide):PE X (.Name x pos) (zmN i):=by
 intro pins s σ H Q I h
 obtain⟨v,e,h⟩:=h
 obtain⟨m,hn,hl⟩:=I.loc
 obtain⟨u,r,l⟩:=hl i x v hN e hv
 have fin:EP X pins σ Q u s:=⟨v,H,I,r,h⟩
 rcases l with⟨hk,hm⟩|⟨hk,c,hc,hcell⟩
 ·exact wpAny_Name (wpAny_loadName_local I.ok.kind hk hn hm fin) hd
 ·rcases hk with hk|hk
  ·exact wpAny_Name (wpAny_loadName_cell I.ok.kind hk hc hcell fin) hd
  ·exact wpAny_Name (wpAny_loadName_free I.ok.kind hk hc hcell fin hcd) hd
theorem zkX{i j pos}:PE X (.Constant (.int i) j pos) (tC (.int i)):=λ_ _ _ H _ I h=>wpAny_Constant_int ⟨.int i,H,I.tok _,⟨_,rfl⟩,h⟩
theorem znI{b j pos}:PE X (.Constant (.bool b) j pos) (tC (.bl b)):=λ_ _ _ H _ I h=>Constant_bool ⟨.bl b,H,I,rfl,h⟩
theorem zlM{j pos}:PE X (.Constant .none j pos) (tC .non):=λ_ _ _ H _ I h=>Constant_none ⟨.non,H,I,rfl,h⟩
theorem zlv{x j pos}:PE X (.Constant (.str x) j pos) (tC (.str x)):=λ_ _ _ H _ I h=>Calls.Constant_str ⟨.str x,H,I.tok _,⟨_,rfl⟩,h⟩
def Gl(X:Cx)(x:Str):Prop:=X.env.kindOf x=some .globalImplicit
theorem zjd{E:Value->Shared->Prop}{pins:List (Addr×Obj)}{s:Shared}{σ:St}{H:Hp}{x:Str}{u:Value}{pos:Pos}{Q:Value->Shared->Prop}(I:Inv X pins σ H s)(hg:Gl X x)(hm:X.mg x=some u)(h:Q u s)
 (hd:(x==("__debug__":Str))=false:=by decide):wpAny (model X.prog X.w) X.A (eval (.Name x pos) X.env) Q E s:=
 Calls.Name_function_global I.ok.kind hg (Calls.loadGlobal_global (by rw[I.ok.glob];exact I.mod.glob.keeps I.bk) hm h) hd
theorem zcx{E:Value->Shared->Prop}{pins:List (Addr×Obj)}{s:Shared}{σ:St}{H:Hp}{x:Str}{u:Value}{pos:Pos}{Q:Value->Shared->Prop}(I:Inv X pins σ H s)(hg:Gl X x)(hm:X.mg x=none)(hv:bootBuiltins x=some u)(h:Q u s)
 (hn:x≠"__name__":=by decide) (hd:(x==("__debug__":Str))=false:=by decide):wpAny (model X.prog X.w) X.A (eval (.Name x pos) X.env) Q E s:=by
 obtain⟨mb,h1,h2⟩:=I.mod.blt
 exact Calls.Name_function_global I.ok.kind hg (Calls.loadGlobal_builtin (by rw[I.ok.glob];exact I.mod.glob.keeps I.bk) hm (by rw[I.ok.blt];exact h1.keeps I.bk) ((h2 x hn).trans hv) h) hd
theorem zmT{x:Str}{v:V}{u:Value}{pos:Pos}(hg:Gl X x)(hm:X.mg x=some u)(r:RelV v u)(hd:(x==("__debug__":Str))=false:=by decide):PE X (.Name x pos) (tC v):=
 λ_ _ _ H _ I h=>zjd I hg hm ⟨v,H,I,r,h⟩ hd
variable{a b:Expr}{ta tb:TE}{pos:Pos}
def PC(X:Cx)(op:CmpOp)(a b:Expr)(t:TE):Prop:=
 ∀(pins:List (Addr×Obj)) (s:Shared) (σ:St) (H:Hp) (Q:VK),Inv X pins σ H s->t σ H Q->
  wpAny (model X.prog X.w) X.A (eval a X.env) (λv s₁=>wpAny (model X.prog X.w) X.A (eval b X.env) (λu s₂=>wpAny (model X.prog X.w) X.A (compareOp op v u) (EP X pins σ Q) X.xe s₂) X.xe s₁) X.xe s
def tB(t:TE):TT:=λσ H Q=>t σ H λx H1=>∃c,x= .bl c/\Q c H1
theorem pt_cmp{op:CmpOp}{t:TE}(h:PC X op a b t)(h1:behindInMarks op b=false:=by first|exact nobehind _ (by decide) (by decide)|rfl):PT X (.Compare a [op] [b] pos) (tB t):=by
 intro pins s σ H Q I hw
 refine wpAny_isTrue_Compare1 (thn (h pins s σ H _ I hw) λv s1 h1=>thn h1 λu s2 h2=>thn h2 λc s3 ⟨x,H1,I1,r1,q1⟩=>?_) h1
 obtain⟨d,rfl,q⟩:=q1
 cases r1
 exact wpAny_truthy_bool ⟨H1,I1,q⟩
theorem zoN{e:Expr}{t:TE}(h:PE X e t)(he:∀whole,isTrue e X.env whole=(do let v ←whole;standAt e.pos;holding [v] (truthy v)):=by intro _;rfl):PT X e (tB t):=by
 intro pins s σ H Q I hw
 refine isTrue_plain (thn (h pins s σ H _ I hw) λv s1 ⟨x,H1,I1,r1,q1⟩=>?_) (he _)
 obtain⟨d,rfl,q⟩:=q1
 cases r1
 exact wpAny_truthy_bool ⟨H1,I1,q⟩
variable{tA tB':TT}{rest:List Expr}
def zpA(t u:TT):TT:=λσ H Q=>t σ H λc H1=>if c=true then u σ H1 Q else Q false H1
def tOr(t u:TT):TT:=λσ H Q=>t σ H λc H1=>if c=true then Q true H1 else u σ H1 Q
def zpH(t:TT):TT:=λσ H Q=>t σ H λc H1=>Q (!c) H1
theorem znl(ha:PT X a tA):PW X (.BoolOp .And [a] pos) tA:=by
 intro wh pins s σ H Q I h
 refine isTrue_and (thn (ha pins s σ H Q I h) λc s1 e=>?_)
 cases c with
 |true=>exact isTrue_and_nil e
 |false=>exact e
theorem zoD(ha:PT X a tA):PW X (.BoolOp .Or [a] pos) tA:=by
 intro wh pins s σ H Q I h
 refine isTrue_or (thn (ha pins s σ H Q I h) λc s1 e=>?_)
 cases c with
 |false=>exact isTrue_or_nil e
 |true=>exact e
theorem zoP(ha:PT X a tA)(hb:PW X (.BoolOp .And (b::rest) pos) tB'):PW X (.BoolOp .And (a::b::rest) pos) (zpA tA tB'):=by
 intro wh pins s σ H Q I h
 refine isTrue_and (thn (ha pins s σ H _ I h) λc s1 ⟨H1,I1,q1⟩=>?_)
 cases c with
 |true=>exact hb wh pins s1 σ H1 Q I1 q1
 |false=>exact ⟨H1,I1,q1⟩
theorem zpM(ha:PT X a tA)(hb:PW X (.BoolOp .Or (b::rest) pos) tB'):PW X (.BoolOp .Or (a::b::rest) pos) (tOr tA tB'):=by
 intro wh pins s σ H Q I h
 refine isTrue_or (thn (ha pins s σ H _ I h) λc s1 ⟨H1,I1,q1⟩=>?_)
 cases c with
 |true=>exact ⟨H1,I1,q1⟩
 |false=>exact hb wh pins s1 σ H1 Q I1 q1
theorem zog(ha:PT X a tA):PT X (.UnaryOp .Not a pos) (zpH tA):=by
 intro pins s σ H Q I h
 exact isTrue_not (ha pins s σ H (λc H1=>Q (!c) H1) I h)
def znV(ta tb:TE):TE:=λσ H Q=>ta σ H λx H1=>∃c,x= .bl c/\if c=true then tb σ H1 Q else Q (.bl false) H1
def znG(ta:TE):TE:=λσ H Q=>ta σ H λx H1=>∃c,x= .bl c/\Q (.bl (!c)) H1
theorem zot{op}{t:TE}(h:PE X a t):PE X (.BoolOp op [a] pos) t:=λpins s σ H Q I hw=>BoolOp_one (h pins s σ H Q I hw)
theorem zn7(ha:PE X a ta)(hb:PE X (.BoolOp .And (b::rest) pos) tb):PE X (.BoolOp .And (a::b::rest) pos) (znV ta tb):=by
 intro pins s σ H Q I h
 refine BoolOp_and (thn (ha pins s σ H _ I h) λv s1 ⟨x,H1,I1,r1,q1⟩=>?_)
 obtain⟨c,rfl,q1⟩:=q1
 cases r1
 refine wpAny_truthy_bool ?_
 cases c with
 |true=>exact hb pins s1 σ H1 Q I1 q1
 |false=>exact ⟨.bl false,H1,I1,rfl,q1⟩
theorem zou(ha:PE X a ta):PE X (.UnaryOp .Not a pos) (znG ta):=by
 intro pins s σ H Q I h
 refine UnaryOp_ (thn (ha pins s σ H _ I h) λv s1 ⟨x,H1,I1,r1,q1⟩=>?_)
 obtain⟨c,rfl,q1⟩:=q1
 cases r1
 exact not_of (wpAny_truthy_bool ⟨.bl (!c),H1,I1,rfl,q1⟩)
def tIf(t:TT)(ta tb:TE):TE:=λσ H Q=>t σ H λc H1=>if c=true then ta σ H1 Q else tb σ H1 Q
theorem zlI{c:Expr}(hc:PT X c tA)(ha:PE X a ta)(hb:PE X b tb):PE X (.IfExp c a b pos) (tIf tA ta tb):=by
 intro pins s σ H Q I h
 refine wpAny_IfExp (thn (hc pins s σ H _ I h) λd s1 ⟨H1,I1,q1⟩=>?_)
 cases d with
 |true=>exact ha pins s1 σ H1 Q I1 q1
 |false=>exact hb pins s1 σ H1 Q I1 q1
end
def SqL(K:PySem.W.Frag)(H:Hp)(a:Addr)(xs:List V):Prop:=
 Rd H a (.lst xs)\/
  ∃(o:Obj) (its:Array Value) (n:Nat),K.lookup a=some o/\o.cls= .type "list"/\o.dict=none/\o.data= .seq its n/\its.size<=sizeLine/\Vals xs its.toList
def SqT(K:PySem.W.Frag)(H:Hp)(a:Addr)(xs:List V):Prop:=
 Rd H a (.tup xs)\/
  ∃(o:Obj) (its:Array Value) (n:Nat),K.lookup a=some o/\o.cls= .type "tuple"/\o.data= .seq its n/\its.size<=sizeLine/\Vals xs its.toList
def zp4:Value->Option V
 | .none=>some .non
 | .bool b=>some (.bl b)
 | .int i _=>some (.int i)
 | .str x _=>some (.str x)
 | .bytes b _=>some (.byt b)
 | .float b _=>some (.flt b)
 | .ref a=>some (.ref a)
 | .type n=>some (.ty n)
 |_=>none
theorem RelV.abs{x:V}{u:Value}(r:RelV x u):zp4 u=some x:=by
 cases x with
 |non=>cases r;rfl
 |bl _=>cases r;rfl
 |int _=>obtain ⟨t,rfl⟩:=r;rfl
 |str _=>obtain ⟨t,rfl⟩:=r;rfl
 |byt _=>obtain ⟨t,rfl⟩:=r;rfl
 |flt _=>obtain ⟨t,rfl⟩:=r;rfl
 |ref _=>cases r;rfl
 |ty _=>cases r;rfl
theorem RelV.inj{x y:V}{u:Value}(r:RelV x u)(q:RelV y u):x=y:=Option.some.inj (r.abs.symm.trans q.abs)
theorem Vals.inj:∀{xs ys:List V} {us:List Value},Vals xs us->Vals ys us->xs=ys
 |_,_,_, .nil, .nil=>rfl
 |_,_,_, .cons r t, .cons r' t'=>by rw[r.inj r',Vals.inj t t']
section
variable{X:Cx}{pins:List (Addr×Obj)}{σ:St}{H:Hp}{s:Shared}{a:Addr}{xs ys:List V}
theorem SqL.of{K:PySem.W.Frag}(h:H a=some (.lst xs)):SqL K H a xs:= .inl (.inl h)
theorem SqT.of{K:PySem.W.Frag}(h:H a=some (.tup xs)):SqT K H a xs:= .inl (.inl h)
theorem Inv.list(I:Inv X pins σ H s)(h:SqL X.K H a xs):∃its:List Value,Vals xs its/\PlainL s.heap a its.toArray/\xs.length<=sizeLine:=by
 rcases h with h|⟨o,its,n,hk,hc,hd,hs,hz,r⟩
 ·obtain ⟨z,its,n,r,e⟩:=h.ok I.hok
  exact⟨its,r,⟨_,n,e,rfl,rfl,rfl⟩,z⟩
 ·refine ⟨its.toList,r,⟨o,n,I.kIn a o hk,hc,hd,by simpa using hs⟩,?_⟩
  have e:=r.length
  simp only[Array.length_toList] at e
  omega
theorem Inv.tuple(I:Inv X pins σ H s)(h:SqT X.K H a xs):∃its:List Value,Vals xs its/\IsTup s.heap a its.toArray/\xs.length<=sizeLine:=by
 rcases h with h|⟨o,its,n,hk,hc,hs,hz,r⟩
 ·obtain ⟨z,its,r,p,_⟩:=h.ok I.hok
  exact⟨its,r,p,z⟩
 ·refine ⟨its.toList,r,⟨o,I.kIn a o hk,hc,n,by simpa using hs⟩,?_⟩
  have e:=r.length
  simp only[Array.length_toList] at e
  omega
theorem Inv.list_inj(I:Inv X pins σ H s)(h:SqL X.K H a xs)(h':SqL X.K H a ys):xs=ys:=by
 obtain⟨its,r,⟨o,n,e,_,_,d⟩,_⟩:=I.list h
 obtain⟨its',r',⟨o',n',e',_,_,d'⟩,_⟩:=I.list h'
 rw[e] at e';cases e'
 rw[d] at d'
 injection d' with d1 _
 have:its=its':=by simpa using congrArg Array.toList d1
 subst this
 exact r.inj r'
theorem Inv.tuple_inj(I:Inv X pins σ H s)(h:SqT X.K H a xs)(h':SqT X.K H a ys):xs=ys:=by
 obtain⟨its,r,⟨o,e,_,n,d⟩,_⟩:=I.tuple h
 obtain⟨its',r',⟨o',e',_,n',d'⟩,_⟩:=I.tuple h'
 rw[e] at e';cases e'
 rw[d] at d'
 injection d' with d1 _
 have:its=its':=by simpa using congrArg Array.toList d1
 subst this
 exact r.inj r'
end
abbrev Cx.wish(X:Cx)(E:Value->Shared->Prop):Cx:={X with xe:=E}
abbrev Cx.nox(X:Cx):Cx:=X.wish λ_ _=>False
theorem Cx.Ok.wish{X:Cx}(ok:X.Ok)(E:Value->Shared->Prop):(X.wish E).Ok:=
 ⟨ok.mod,ok.kind,ok.glob,ok.blt,ok.above,ok.inj,ok.has,ok.cab,ok.hd,ok.frames,ok.stk,ok.exf,ok.bs,ok.bsz,ok.noex,ok.exfs,ok.funs,ok.frf⟩
theorem Cx.Ok.unwish{X:Cx}{E:Value->Shared->Prop}(ok:(X.wish E).Ok):X.Ok:=
 ⟨ok.mod,ok.kind,ok.glob,ok.blt,ok.above,ok.inj,ok.has,ok.cab,ok.hd,ok.frames,ok.stk,ok.exf,ok.bs,ok.bsz,ok.noex,ok.exfs,ok.funs,ok.frf⟩
section
variable{X:Cx}{pins:List (Addr×Obj)}{σ:St}{H:Hp}{s:Shared}{E:Value->Shared->Prop}
theorem Inv.wish(I:Inv X pins σ H s)(E:Value->Shared->Prop):Inv (X.wish E) pins σ H s:=⟨I.ok.wish E,I.os,I.bare,I.base,I.loc,I.cell,I.free,I.freeC,I.pin,I.hok,I.len⟩
theorem Inv.unwish(I:Inv (X.wish E) pins σ H s):Inv X pins σ H s:=⟨I.ok.unwish,I.os,I.bare,I.base,I.loc,I.cell,I.free,I.freeC,I.pin,I.hok,I.len⟩
theorem SP.unwish{D:Ends}{f:Flow}{s':Shared}(h:SP (X.wish E) pins D f s'):SP X pins D f s':=by
 cases f with
 |next=>obtain ⟨σ',H',I,q⟩:=h;exact⟨σ',H',I.unwish,q⟩
 |brk=>obtain ⟨σ',H',I,q⟩:=h;exact⟨σ',H',I.unwish,q⟩
 |cont=>obtain ⟨σ',H',I,q⟩:=h;exact⟨σ',H',I.unwish,q⟩
 |ret u=>obtain ⟨v,σ',H',I,r,q⟩:=h;exact⟨v,σ',H',I.unwish,r,q⟩
theorem PSs.nox{st:List Stmt}{t:TS}(h:PSs X.nox st t):PSs X st t:=λpins s σ H D I hw=>
 wpAny_mono (h pins s σ H D (I.wish _) hw) (λ_ _ q=>q.unwish) λ_ _ z=>False.elim z
end
section
variable{X:Cx}{st:Stmt}{rest:List Stmt}{t u:TS}{e:Expr}{te:TE}{pos:Pos}
def znE:TS:=λD σ H=>D.nx σ H
def zpG(t u:TS):TS:=λD σ H=>t {D with nx:=u D} σ H
theorem zns:PSs X [] znE:=λ_ _ σ H _ I h=>wpAny_execs_nil ⟨σ,H,I,h⟩
theorem zhi(h1:PS X st t)(h2:PSs X rest u):PSs X (st::rest) (zpG t u):=by
 intro pins s σ H D I h
 refine wpAny_execs_cons (thn (h1 pins s σ H {D with nx:=u D} I h) λf s1 q=>?_)
 cases f with
 |next=>
  obtain⟨σ',H',I',q⟩:=q
  exact h2 pins s1 σ' H' D I' q
 |ret v=>exact q
 |brk=>exact q
 |cont=>exact q
theorem zng(h1:PS X st t):PSs X [st] t:=by
 intro pins s σ H D I h
 refine wpAny_execs_cons (thn (h1 pins s σ H D I h) λf s1 q=>?_)
 cases f with
 |next=>exact wpAny_execs_nil q
 |ret v=>exact q
 |brk=>exact q
 |cont=>exact q
def znT:TS:=λD σ H=>D.ct σ H
theorem zgO:PS X (.Continue pos) znT:=λ_ _ σ H _ I h=>wpAny_Continue ⟨σ,H,I,h⟩
theorem Inv.quiet{pins:List (Addr×Obj)}{σ:St}{H:Hp}{s:Shared}(I:Inv X pins σ H s):interactive X.env=false:=by simp[interactive,I.ok.kind]
def znU(te:TE):TS:=λD σ H=>te σ H λ_ H1=>D.nx σ H1
theorem zmh(he:PE X e te)(hs:swapsWith e none pos.line X.env=pure false:=by rfl):PS X (.Expr e pos) (znU te):=by
 intro pins s σ H D I h
 exact wpAny_Expr_any (thn (he pins s σ H _ I h) λv s1 ⟨x,H1,I1,r1,q1⟩=>⟨σ,H1,I1,q1⟩) I.quiet hs
def zpo(te:TE):TS:=λD σ H=>te σ H D.rt
theorem zpa(he:PE X e te):PS X (.Return (some e) pos) (zpo te):=by
 intro pins s σ H D I h
 exact wpAny_Return_some (thn (he pins s σ H _ I h) λv s1 ⟨x,H1,I1,r1,q1⟩=>⟨x,σ,H1,I1,r1,q1⟩)
def zpI(c:TT)(t u:TS):TS:=λD σ H=>c σ H λb H1=>if b=true then t D σ H1 else u D σ H1
theorem zpt{c:Expr}{a b:List Stmt}{tc:TT}(hc:PT X c tc)(ha:PSs X a t)(hb:PSs X b u):PS X (.If c a b pos) (zpI tc t u):=by
 intro pins s σ H D I h
 refine wpAny_If (thn (hc pins s σ H _ I h) λd s1 ⟨H1,I1,q1⟩=>?_)
 cases d with
 |true=>exact ha pins s1 σ H1 D I1 q1
 |false=>exact hb pins s1 σ H1 D I1 q1
end
abbrev TG:=V->St->Hp->(St->Hp->Prop)->Prop
abbrev TGs:=List V->St->Hp->(St->Hp->Prop)->Prop
def PG(X:Cx)(target:Expr)(t:TG):Prop:=
 ∀(pins:List (Addr×Obj)) (s:Shared) (σ:St) (H:Hp) (v:V) (u:Value) (Q:St->Hp->Prop),Inv X pins σ H s->RelV v u->t v σ H Q->
  wpAny (model X.prog X.w) X.A (assign target X.env u) (λ_ s'=>∃σ' H',Inv X pins σ' H' s'/\Q σ' H') X.xe s
def PGs(X:Cx)(ts:List Expr)(t:TGs):Prop:=
 ∀(pins:List (Addr×Obj)) (s:Shared) (σ:St) (H:Hp) (vs:List V) (us:List Value) (Q:St->Hp->Prop),Inv X pins σ H s->Vals vs us->t vs σ H Q->
  wpAny (model X.prog X.w) X.A (assignInOrder ((assignEach ts X.env).map (·.2)) us) (λ_ s'=>∃σ' H',Inv X pins σ' H' s'/\Q σ' H') X.xe s
abbrev zmw:=V->V->V->Hp->(Hp->Prop)->Prop
def zoe(X:Cx)(t:zmw):Prop:=
 ∀(pins:List (Addr×Obj)) (s:Shared) (σ:St) (H:Hp) (o i v:V) (ov iv u:Value) (Q:Hp->Prop),Inv X pins σ H s->RelV o ov->RelV i iv->RelV v u->t o i v H Q->
  wpAny (model X.prog X.w) X.A (setItem ov iv u) (λ_ s'=>∃H',Inv X pins σ H' s'/\Q H') X.xe s
section
variable{X:Cx}{pos:Pos}
def zbi(i:Nat):TG:=λv σ H Q=>Q (σ.set i (some v)) H
theorem ziM{i:Nat}{x:Str}(hN:X.N.Nodup)(hi:X.N[i]?=some x)(hx:Loc X.env.scope x)(hf:X.fn x=true\/X.env.scope.names.lookup x=some .local:=by first|exact .inl rfl|exact .inr rfl|assumption):PG X (.Name x pos) (zbi i):=by
 intro pins s σ H v u Q I r h
 exact wpAny_assign_Name (zcC I hN hi hx r (λs' I'=>⟨_,H,I',h⟩) hf)
def zpy:TGs:=λvs σ H Q=>vs=[]/\Q σ H
def znA(t:TG)(u:TGs):TGs:=λvs σ H Q=>∃v r,vs=v::r/\t v σ H λσ' H'=>u r σ' H' Q
theorem zmb:PGs X [] zpy:=by
 intro pins s σ H vs us Q I r h
 obtain⟨e,h⟩:=h
 subst e
 cases r
 exact assignInOrder_nil ⟨σ,H,I,h⟩
theorem zka{e:Expr}{es:List Expr}{t:TG}{u:TGs}(h1:PG X e t)(h2:PGs X es u)
 (hs:(assignEach (e::es) X.env).map (·.2)=assign e X.env::(assignEach es X.env).map (·.2):=by rfl):PGs X (e::es) (znA t u):=by
 intro pins s σ H vs us Q I r h
 obtain⟨v,vr,e1,h⟩:=h
 subst e1
 cases r with
 |cons r rr=>
  rw[hs]
  refine assignInOrder_cons (thn (h1 pins s σ H _ _ _ I r h) λ_ s1 ⟨σ1,H1,I1,q1⟩=>?_)
  exact h2 pins s1 σ1 H1 _ _ Q I1 rr q1
def zoq(K:PySem.W.Frag)(n:Nat)(t:TGs):TG:=λv σ H Q=>∃a xs,v= .ref a/\SqT K H a xs/\xs.length=n/\t xs σ H Q
theorem zon{es:List Expr}{k:Nat}{t:TGs}{n:Nat}(hc:X.calm=true)(h:PGs X es t)
 (hn:(assignEach es X.env).length=n:=by rfl) (hst:(assignEach es X.env).findIdx? (·.1)=none:=by rfl):PG X (.Tuple es k pos) (zoq X.K n t):=by
 intro pins s σ H v u Q I r hw
 obtain⟨a,xs,e1,hq,hl,hw⟩:=hw
 subst e1
 cases r
 obtain⟨its,rv,ht,hz⟩:=I.tuple hq
 refine assign_Tuple_tuple (I.ok.hd hc) ht (by simp[hn,←hl,rv.length]) hst λh' hx=>?_
 have I1:Inv X pins σ H {s with heap:=h'}:=I.kept (t':=s.toks) λb o e=>hx b o (Nat.ne_of_lt (Heap.lt_size e)) e
 exact h pins _ σ H xs _ Q I1 (by simpa using rv) hw
def zps(to ti:TE)(t:zmw):TG:=λv σ H Q=>to σ H λo H1=>ti σ H1 λi H2=>t o i v H2 λH3=>Q σ H3
theorem zoV{o i:Expr}{to ti:TE}{t:zmw}(ho:PE X o to)(hi:PE X i ti)(hs:zoe X t)
 (ha:∀v,assign (.Subscript o i pos) X.env v=(do
   let ov ←holding [v] (eval o X.env)
   let iv ←holding [v,ov] (eval i X.env)
   standAt pos
   holding [v,ov,iv] (setItem ov iv v)
   release [v,ov,iv] []):=by intro _;rfl):PG X (.Subscript o i pos) (zps to ti t):=by
 intro pins s σ H v u Q I r h
 rw[ha]
 refine wpAny_bind (wpAny_holding (thn (ho pins s σ H _ I h) λov s1 ⟨x,H1,I1,r1,q1⟩=>?_))
 refine wpAny_bind (wpAny_holding (thn (hi pins s1 σ H1 _ I1 q1) λiv s2 ⟨y,H2,I2,r2,q2⟩=>?_))
 refine wpAny_bind (wpAny_standAt (wpAny_bind (wpAny_holding (thn (hs pins s2 σ H2 x y v ov iv u _ I2 r1 r2 r q2) λ_ s3 ⟨H3,I3,q3⟩=>?_))))
 exact wpAny_release ⟨σ,H3,I3,q3⟩
def zij(te:TE)(g:TG):TS:=λD σ H=>te σ H λx H1=>g x σ H1 D.nx
theorem zo7{tg e:Expr}{te:TE}{g:TG}(he:PE X e te)(hg:PG X tg g)(hs:swapsWithSole [tg] e pos.line X.env=pure false:=by rfl)(hw:swappedStores [tg] e X.env=pure none:=by rfl)
 (h1:(assignEach [tg] X.env).map (·.2)=[assign tg X.env]:=by rfl):PS X (.Assign [tg] e pos) (zij te g):=by
 intro pins s σ H D I h
 refine wpAny_Assign_stores (thn (he pins s σ H _ I h) λv s1 ⟨x,H1,I1,r1,q1⟩=>?_) hs hw
 rw[h1]
 exact thn (hg pins s1 σ H1 x v _ I1 r1 q1) λ_ s2 q=>q
theorem zkb{i:Nat}{x:Str}{e:Expr}{te:TE}{pos':Pos}(hN:X.N.Nodup)(hi:X.N[i]?=some x)(hx:Loc X.env.scope x)(he:PE X e te)(hs:swapsWith e (some (.Name x pos')) pos.line X.env=pure false:=by rfl)(hf:X.fn x=true\/X.env.scope.names.lookup x=some .local:=by first|exact .inl rfl|exact .inr rfl|assumption):
 PS X (.Assign [.Name x pos'] e pos) (zij te (zbi i)):=by
 intro pins s σ H D I h
 refine wpAny_Assign_Name (thn (he pins s σ H _ I h) λv s1 ⟨y,H1,I1,r1,q1⟩=>?_) hs
 exact zcC I1 hN hi hx r1 (λs2 I2=>⟨_,H1,I2,q1⟩) hf
def zpw(i j:Nat)(ta:TA):TS:=λD σ H=>ta σ H λvs H1=>∃v w,vs=[v,w]/\D.nx ((σ.set i (some v)).set j (some w)) H1
theorem zos{i j:Nat}{x y:Str}{a b:Expr}{ta:TA}{px py pt:Pos}{kt k2 pt2}(hc:X.calm=true)(hN:X.N.Nodup)(hi:X.N[i]?=some x)(hj:X.N[j]?=some y)(hij:i≠j)
 (hx:X.env.scope.names.lookup x=some .local) (hy:X.env.scope.names.lookup y=some .local) (ha:PA X [a,b] ta)
 (hw:swappedStores [.Tuple [.Name x px, .Name y py] kt pt] (.Tuple [a,b] k2 pt2) X.env=pure (some [x,y]))
 (hs:swapsWithSole [.Tuple [.Name x px, .Name y py] kt pt] (.Tuple [a,b] k2 pt2) pos.line X.env=pure false:=by rfl):
 PS X (.Assign [.Tuple [.Name x px, .Name y py] kt pt] (.Tuple [a,b] k2 pt2) pos) (zpw i j ta):=by
 intro pins s σ H D I h
 rw[exec_Assign_arm]
 refine wpAny_bind (wpAny_standAt ?_)
 rw[hs]
 refine wpAny_bind (wpAny_pure ?_)
 rw[if_neg (by decide)]
 refine wpAny_bind (Tuple_ (thn (ha _ pins s σ H _ I h) λus s1 ⟨vs,H1,I1,r1,q1⟩=>?_))
 obtain⟨v,w,e1,q1⟩:=q1
 subst e1
 obtain⟨u1,u2,rfl,rv,rw'⟩:∃u1 u2,us=[u1,u2]/\RelV v u1/\RelV w u2:=by
  cases r1 with
  |cons p q=>
   cases q with
   |cons p' q'=>
    cases q'
    exact⟨_,_,rfl,p,p'⟩
 refine wpAny_newObj_type ?_ (by show 2<=sizeLine;decide)
 have I2:Inv X pins σ H1 {s1 with heap:=s1.heap.push {cls:= .type "tuple",data:= .seq [u1,u2].toArray}}:=I1.kept (t':=s1.toks) λb o e=>Heap.get?_push_of_some _ e
 rw[hw]
 refine wpAny_bind (wpAny_pure ?_)
 show wpAny (model X.prog X.w) X.A (do rule "assign.swapped-stores";let items ←unpackItems (.ref s1.heap.objs.size) 2 none;assignInOrder [λv=>bindName X.env y v,λv=>bindName X.env x v] items.reverse;pure Flow.next) _ _ _
 refine wpAny_bind (wpAny_rule (wpAny_bind (unpackItems_tuple (items:= #[u1,u2]) (I.ok.hd hc) (IsTup.new s1.heap _) λh' hx'=>?_)))
 have I3:=I2.kept (h':=h') (t':=s1.toks) λb o e=>hx' b o (Nat.ne_of_lt (Heap.lt_size e)) e
 show wpAny _ _ (assignInOrder [λv=>bindName X.env y v,λv=>bindName X.env x v] [u2,u1]>>=λ_=>pure Flow.next) _ _ _
 refine wpAny_bind (assignInOrder_cons (wpAny_bindName (zcC I3 hN hj (.inl hy) rw' (λs2 I4=>?_) (.inr hy))))
 refine assignInOrder_cons (wpAny_bindName (zcC I4 hN hi (.inl hx) rv (λs3 I5=>assignInOrder_nil (wpAny_pure ?_)) (.inr hx)))
 rw[List.set_comm _ _ (Ne.symm hij)] at I5
 exact⟨_,H1,I5,q1⟩
end
section
variable{X:Cx}{pos:Pos}
def zli(c:TT)(tb:TS):TS:=λD σ H=>∃W:Nat->St->Hp->Prop,(∃m,W m σ H)/\∀m σ H,W m σ H->
 c σ H λb H1=>if b=true then∃N:St->Hp->Prop,(∀σ' H',N σ' H'->∃m',m'<m/\W m' σ' H')/\tb {D with nx:=N,ct:=N,bk:=D.nx} σ H1 else D.nx σ H1
theorem zlx{c:Expr}{body:List Stmt}{tc:TT}{tb:TS}(hp:PassesOwn (model X.prog X.w) X.A X.env X.xe)(hc:PT X c tc)(hb:PSs X body tb):PS X (.While c body [] pos) (zli tc tb):=by
 intro pins s σ H D I h
 obtain⟨W,⟨m0,w0⟩,turn⟩:=h
 refine wpAny_While (codeAny_whileLoop (λn s'=>∃σ' H',Inv X pins σ' H' s'/\W n σ' H') ?_ m0 ⟨σ,H,I,w0⟩)
 rintro n s1 ⟨σ1,H1,I1,w1⟩
 refine wpAny_passesOwn hp (thn (hc pins s1 σ1 H1 _ I1 (turn n σ1 H1 w1)) λb s2 ⟨H2,I2,q2⟩=>?_)
 cases b with
 |true=>
  obtain⟨N,hN,q2⟩:=q2
  rw[if_pos rfl]
  refine wpAny_passesOwn hp (thn (hb pins s2 σ1 H2 _ I2 q2) λf s3 q3=>?_)
  cases f with
  |next=>
   obtain⟨σ3,H3,I3,n3⟩:=q3
   obtain⟨m',hm,w3⟩:=hN σ3 H3 n3
   exact⟨m',hm,σ3,H3,I3,w3⟩
  |cont=>
   obtain⟨σ3,H3,I3,n3⟩:=q3
   obtain⟨m',hm,w3⟩:=hN σ3 H3 n3
   exact⟨m',hm,σ3,H3,I3,w3⟩
  |brk=>exact q3
  |ret v=>exact q3
 |false=>
  rw[if_neg Bool.false_ne_true]
  exact wpAny_execs_nil ⟨σ1,H2,I2,q2⟩
end
structure It where
 go:Nat->Hp->Prop
 yld:Nat->Hp->V->Hp->Prop
 stop:Nat->Hp->Prop
def zc5(X:Cx)(pins:List (Addr×Obj))(H:Hp)(b:Addr):Prop:=
 H b=none/\b≠X.env.locals/\b∉X.fs/\(b∈X.ex\/X.s₀.heap.objs.size<=b)/\(∀x c,X.env.cells.lookup x=some c->c≠b)/\∀p∈X.pn ++pins,p.1≠b
theorem Inv.fpOk{X:Cx}{pins:List (Addr×Obj)}{σ:St}{H H':Hp}{s:Shared}{b:Addr}(I:Inv X pins σ H s)(hb:s.heap.objs.size<=b)(hn:H' b=none):zc5 X pins H' b:=by
 refine⟨hn,Nat.ne_of_gt (Nat.lt_of_lt_of_le I.lt hb),I.nofs hb, .inr (Nat.le_trans I.sz hb),λx c e z=>?_,λp hp z=>?_⟩
 ·obtain ⟨v,q⟩:=I.cell x c e
  exact absurd (Nat.lt_of_lt_of_le q.lt (by rw[z];exact hb)) (Nat.lt_irrefl _)
 ·exact absurd (Nat.lt_of_lt_of_le (Heap.lt_size (I.pin p hp).1) (by rw[z];exact hb)) (Nat.lt_irrefl _)
structure Turn(P:Program)(w:World)(K:PySem.W.Frag)(tg:Expr)(J:It)(fp:List Addr)(it:Addr)(tn:Nat->Heap->Prop):Prop where
 mem:it∈fp
 obj:∀i h,tn i h->∀b∈fp,∃o,h.get? b=some o/\∀v,o.data≠ .cell v
 keep:∀i h h',tn i h->(∀b∈fp,∀o,h.get? b=some o->h'.get? b=some o)->tn i h'
 item:∀(X:Cx),X.prog=P->X.w=w->X.K=K->X.calm=true->∀(i:Nat) (pins:List (Addr×Obj)) (s:Shared) (σ:St) (H:Hp) (E:Value->Shared->Prop),Inv X pins σ H s->(∀b∈fp,zc5 X pins H b)->tn i s.heap->J.go i H->
  wpAny (model P w) X.A (pyNext (.ref it)) (λr s1=>∃u,r=some u/\
   wpAny (model P w) X.A (letOwnedTupleGo tg (.ref it) u) (λ_ s2=>∃x H',Inv X pins σ H' s2/\RelV x u/\J.yld i H x H'/\tn (i+1) s2.heap/\∀b∈fp,H' b=none) E s1) E s
 done:∀(X:Cx),X.prog=P->X.w=w->X.K=K->X.calm=true->∀(i:Nat) (pins:List (Addr×Obj)) (s:Shared) (σ:St) (H:Hp) (E:Value->Shared->Prop),Inv X pins σ H s->(∀b∈fp,zc5 X pins H b)->tn i s.heap->J.stop i H->
   wpAny (model P w) X.A (pyNext (.ref it)) (λr s1=>r=none/\Inv X pins σ H s1) E s
 self:∀(A:Around) (i:Nat) (s:Shared) (Q:Value->Shared->Prop) (E:Value->Shared->Prop),tn i s.heap->Q (.ref it) s->wpAny (model P w) A (pyIter (.ref it)) Q E s
abbrev TI:=St->Hp->(It->Hp->Prop)->Prop
def PIE(X:Cx)(pins:List (Addr×Obj))(σ:St)(tg:Expr)(R:It->Hp->Prop)(itv:Value)(s2:Shared):Prop:=
 ∃(it:Addr) (fp:List Addr) (tn:Nat->Heap->Prop) (J:It) (H':Hp),itv= .ref it/\Inv X pins σ H' s2/\Turn X.prog X.w X.K tg J fp it tn/\tn 0 s2.heap/\(∀b∈fp,zc5 X pins H' b)/\R J H'
def PI(X:Cx)(tg iter:Expr)(wi:TI):Prop:=
 ∀(pins:List (Addr×Obj)) (s:Shared) (σ:St) (H:Hp) (R:It->Hp->Prop),Inv X pins σ H s->wi σ H R->
  wpAny (model X.prog X.w) X.A (eval iter X.env) (λv s1=>wpAny (model X.prog X.w) X.A (pyIter v) (PIE X pins σ tg R) X.xe s1) X.xe s
theorem ziG{M:Model}{A:Around}{E:Value->Shared->Prop}{s:Shared}{tg:Expr}{it:Addr}{u:Value}{o:Obj}{n:String}{vs:Array Value}{Q:Unit->Shared->Prop}(ho:s.heap.get? it=some o)(hc:o.cls= .type n)(hd:o.data= .fields vs)
 (hn:["enumerate","zip","dict_itemiterator","dict_reverseitemiterator","odict_iterator","itertools.zip_longest","itertools.pairwise"].contains n=false) (hQ:Q () s):wpAny M A (letOwnedTupleGo tg (.ref it) u) Q E s:=by
 unfold letOwnedTupleGo
 cases tg<;>first
  |exact wpAny_pure hQ
  |(cases u<;>first
     |exact wpAny_pure hQ
     |(refine wpAny_bind (wpAny_load ho ?_)
       rw[hc,hd]
       show wpAny M A (if(["enumerate","zip","dict_itemiterator","dict_reverseitemiterator","odict_iterator","itertools.zip_longest","itertools.pairwise"].contains n&&vs[0]?==some (rawInt _))=true then _ else _) Q E s
       rw[if_neg (by intro h;rw[hn,Bool.false_and] at h;cases h)]
       exact wpAny_pure hQ))
def Itl(K:PySem.W.Frag)(a:Addr):It:=
 ⟨λi H=>∃xs x,SqL K H a xs/\xs[i]?=some x,λi H x H'=>H'=H/\∀xs,SqL K H a xs->xs[i]?=some x,λi H=>∃xs,SqL K H a xs/\xs.length<=i⟩
def Itt(K:PySem.W.Frag)(a:Addr):It:=
 ⟨λi H=>∃xs x,SqT K H a xs/\xs[i]?=some x,λi H x H'=>H'=H/\∀xs,SqT K H a xs->xs[i]?=some x,λi H=>∃xs,SqT K H a xs/\xs.length<=i⟩
def Itr(lo:Int)(n:Nat):It:=⟨λi _=>i<n,λi H x H'=>H'=H/\x= .int (lo+i),λi _=>n<=i⟩
theorem zjv{P:Program}{w:World}{K:PySem.W.Frag}{tg:Expr}(a it:Addr):Turn P w K tg (Itl K a) [it] it (λi h=>h.IsListIter it a i) where
 mem:=by simp
 obj:=λi h st b hb=>by
  have e:b=it:=by simpa using hb
  subst e
  obtain⟨o,e,c,d⟩:=st
  exact⟨o,e,λv z=>by rw[d] at z;cases z⟩
 keep:=λi h h' st k=>st.at λo e=>k it (by simp) o e
 item:=by
  intro X hP hw hK hc i pins s σ H E I hf st hg
  subst hP hw hK
  obtain⟨xs,x,hq,hx⟩:=hg
  obtain⟨its,rv,p,hz⟩:=I.list hq
  obtain⟨u,hu,ru⟩:=rv.get hx
  obtain⟨f0,f1,f2,f3,f4,f5⟩:=hf it (by simp)
  refine wpAny_pyNext_list_item st p.isList (x:=u) (by simpa using hu) λh' st' sb=>?_
  have I1:Inv X pins σ H {s with heap:=h'}:=I.turned (t':=s.toks) (λb o hb e=>(sb.2 b hb).trans e) f0 f1 f3 f4 f5
  obtain⟨o,e,c,d⟩:=id st'
  exact⟨u,rfl,ziG (s:={s with heap:=h'}) e c d (by decide) ⟨x,H,I1,ru,⟨rfl,λys hy=>by rw[I.list_inj hy hq];exact hx⟩,st',λb hb=>(hf b hb).1⟩⟩
 done:=by
   intro X hP hw hK hc i pins s σ H E I hf st hg
   subst hP hw hK
   obtain⟨xs,hq,hx⟩:=hg
   obtain⟨its,rv,p,hz⟩:=I.list hq
   obtain⟨f0,f1,f2,f3,f4,f5⟩:=hf it (by simp)
   have hl:=rv.length
   exact wpAny_pyNext_list_end (I.ok.hd hc) st p.isList (by simp;omega) λh' eb=>⟨rfl,I.turned (t':=s.toks) (λb o hb e=>eb b o hb e) f0 f1 f3 f4 f5⟩
 self:=λ_ _ _ _ _ st h=>wpAny_pyIter_listiter st h
theorem zhT{P:Program}{w:World}{K:PySem.W.Frag}{tg:Expr}(a it:Addr):Turn P w K tg (Itt K a) [it] it (λi h=>h.IsTupleIter it a i) where
 mem:=by simp
 obj:=λi h st b hb=>by
  have e:b=it:=by simpa using hb
  subst e
  obtain⟨o,e,c,d⟩:=st
  exact⟨o,e,λv z=>by rw[d] at z;cases z⟩
 keep:=λi h h' st k=>st.at λo e=>k it (by simp) o e
 item:=by
  intro X hP hw hK hc i pins s σ H E I hf st hg
  subst hP hw hK
  obtain⟨xs,x,hq,hx⟩:=hg
  obtain⟨its,rv,p,hz⟩:=I.tuple hq
  obtain⟨u,hu,ru⟩:=rv.get hx
  obtain⟨f0,f1,f2,f3,f4,f5⟩:=hf it (by simp)
  refine wpAny_pyNext_tuple_item st (show s.heap.IsTuple a its.toArray from p) (x:=u) (by simpa using hu) λh' st' sb=>?_
  have I1:Inv X pins σ H {s with heap:=h'}:=I.turned (t':=s.toks) (λb o hb e=>(sb.2 b hb).trans e) f0 f1 f3 f4 f5
  obtain⟨o,e,c,d⟩:=id st'
  exact⟨u,rfl,ziG (s:={s with heap:=h'}) e c d (by decide) ⟨x,H,I1,ru,⟨rfl,λys hy=>by rw[I.tuple_inj hy hq];exact hx⟩,st',λb hb=>(hf b hb).1⟩⟩
 done:=by
   intro X hP hw hK hc i pins s σ H E I hf st hg
   subst hP hw hK
   obtain⟨xs,hq,hx⟩:=hg
   obtain⟨its,rv,p,hz⟩:=I.tuple hq
   obtain⟨f0,f1,f2,f3,f4,f5⟩:=hf it (by simp)
   have hl:=rv.length
   exact wpAny_pyNext_tuple_end (I.ok.hd hc) st (show s.heap.IsTuple a its.toArray from p) (by simp;omega) λh' eb=>⟨rfl,I.turned (t':=s.toks) (λb o hb e=>eb b o hb e) f0 f1 f3 f4 f5⟩
 self:=λ_ _ _ _ _ st h=>wpAny_pyIter_tupleiter st h
theorem ziu{P:Program}{w:World}{K:PySem.W.Frag}{tg:Expr}(it:Addr)(lo:Int)(n:Nat):Turn P w K tg (Itr lo n) [it] it (λi h=>IsRangeIter h it (lo+(i:Nat)*1) ((n:Int) -(i:Nat)) 1) where
 mem:=by simp
 obj:=λi h st b hb=>by
  have e:b=it:=by simpa using hb
  subst e
  exact⟨_,st,λv z=>by
   have z':Data.fields _=Data.cell v:=z
   cases z'⟩
 keep:=λi h h' st k=>k it (by simp) _ st
 item:=by
  intro X hP hw hK hc i pins s σ H E I hf st hg
  subst hP hw hK
  obtain⟨f0,f1,f2,f3,f4,f5⟩:=hf it (by simp)
  have W:=Walks.range (prog:=X.prog) (w:=X.w) (I.ok.hd hc) it lo 1 n
  refine W.item i s _ _ hg st λv h' tk hv st' kk=>?_
  obtain⟨t,rfl⟩:=hv
  have I1:Inv X pins σ H {s with heap:=h',toks:=tk}:=I.turned (λb o hb e=>kk b o (by simpa using hb) e) f0 f1 f3 f4 f5
  refine⟨_,rfl,ziG (s:={s with heap:=h',toks:=tk}) (n:="range_iterator") st' rfl rfl (by decide) ⟨.int (lo+i),H,I1,⟨t,?_⟩,⟨rfl,rfl⟩,st',λb hb=>(hf b hb).1⟩⟩
  rw[Int.mul_one]
 done:=by
   intro X hP hw hK hc i pins s σ H E I hf st hg
   subst hP hw hK
   obtain⟨f0,f1,f2,f3,f4,f5⟩:=hf it (by simp)
   exact wpAny_pyNext_range_end (I.ok.hd hc) st (by have:n<=i:=hg;omega) λh' eb=>⟨rfl,I.turned (t':=s.toks) (λb o hb e=>eb b o hb e) f0 f1 f3 f4 f5⟩
 self:=λ_ _ _ _ _ st h=>wpAny_pyIter_rangeiter st h
section
variable{X:Cx}{tg:Expr}
def znP(K:PySem.W.Frag)(tl:TE):TI:=λσ H R=>tl σ H λx H1=>∃a,x= .ref a/\(∃xs,SqL K H1 a xs)/\R (Itl K a) H1
def zpq(K:PySem.W.Frag)(tl:TE):TI:=λσ H R=>tl σ H λx H1=>∃a,x= .ref a/\(∃xs,SqT K H1 a xs)/\R (Itt K a) H1
theorem znn{l:Expr}{tl:TE}(hl:PE X l tl):PI X tg l (znP X.K tl):=by
 intro pins s σ H R I h
 refine thn (hl pins s σ H _ I h) λv s1 ⟨x,H1,I1,r1,q1⟩=>?_
 obtain⟨a,e,⟨xs,hq⟩,q⟩:=q1
 subst e
 cases r1
 obtain⟨its,rv,p,hz⟩:=I1.list hq
 refine wpAny_pyIter_list p.isList ?_
 refine⟨s1.heap.objs.size,[s1.heap.objs.size],_,_,H1,rfl,I1.kept (t':=s1.toks) λb o e=>Heap.get?_push_of_some _ e,zjv a _,⟨_,Heap.get?_push_size _ rfl,rfl,rfl⟩,λb hb=>?_,q⟩
 have e:b=s1.heap.objs.size:=by simpa using hb
 subst e
 exact I1.fpOk (Nat.le_refl _) (I1.hok.fresh (Nat.le_refl _))
theorem zok{l:Expr}{tl:TE}(hl:PE X l tl):PI X tg l (zpq X.K tl):=by
 intro pins s σ H R I h
 refine thn (hl pins s σ H _ I h) λv s1 ⟨x,H1,I1,r1,q1⟩=>?_
 obtain⟨a,e,⟨xs,hq⟩,q⟩:=q1
 subst e
 cases r1
 obtain⟨its,rv,p,hz⟩:=I1.tuple hq
 refine wpAny_pyIter_tuple (show s1.heap.IsTuple a its.toArray from p) ?_
 refine⟨s1.heap.objs.size,[s1.heap.objs.size],_,_,H1,rfl,I1.kept (t':=s1.toks) λb o e=>Heap.get?_push_of_some _ e,zhT a _,⟨_,Heap.get?_push_size _ rfl,rfl,rfl⟩,λb hb=>?_,q⟩
 have e:b=s1.heap.objs.size:=by simpa using hb
 subst e
 exact I1.fpOk (Nat.le_refl _) (I1.hok.fresh (Nat.le_refl _))
theorem zhu{pins:List (Addr×Obj)}{σ:St}{H:Hp}{s:Shared}{R:It->Hp->Prop}{E:Value->Shared->Prop}{lo hi:Int}{t u v:Tok}{tk:Nat}(I:Inv X pins σ H s)(h1: -(2^62)<=lo)(h2:lo<2^62)(h3: -(2^62)<=hi)(h4:hi<2^62)
 (q:R (Itr lo (hi -lo).toNat) H):wpAny (model X.prog X.w) X.A (pyIter (.ref s.heap.objs.size)) (PIE X pins σ tg R) E {s with heap:=s.heap.push {cls:= .type "range",data:= .fields #[.int lo t, .int hi u, .int 1 v]},toks:=tk}:=by
 refine wpAny_pyIter_range (IsRange.new ..) (small_one h1 h2 h3 h4) ?_
 have I1:Inv X pins σ H {s with heap:=s.heap.push {cls:= .type "range",data:= .fields #[.int lo t, .int hi u, .int 1 v]},toks:=tk}:=I.kept λb o e=>Heap.get?_push_of_some _ e
 refine⟨(s.heap.push {cls:= .type "range",data:= .fields #[.int lo t, .int hi u, .int 1 v]}).objs.size,[(s.heap.push {cls:= .type "range",data:= .fields #[.int lo t, .int hi u, .int 1 v]}).objs.size],_,_,H,rfl,
  I1.kept (t':=tk) λb o e=>Heap.get?_push_of_some _ e,ziu _ lo (hi -lo).toNat,?_,λb hb=>?_,q⟩
 ·have e1:lo+((0:Nat):Int)*1=lo:=by simp
  have e2:(((hi -lo).toNat:Nat):Int) -((0:Nat):Int)=Builtin.Range.rangeSize lo hi 1:=by rw[rangeSize_one];split<;>omega
  show IsRangeIter _ _ (lo+((0:Nat):Int)*1) ((((hi -lo).toNat:Nat):Int) -((0:Nat):Int)) 1
  rw[e1,e2]
  exact Heap.get?_push_size _ rfl
 ·have e:b=(s.heap.push {cls:= .type "range",data:= .fields #[.int lo t, .int hi u, .int 1 v]}).objs.size:=by simpa using hb
  subst e
  exact I1.fpOk (Nat.le_refl _) (I1.hok.fresh (Nat.le_refl _))
def znC(ta:TA):TI:=λσ H R=>ta σ H λvs H1=>∃j:Int,vs=[.int j]/\-(2^62)<=j/\j<2^62/\R (Itr 0 j.toNat) H1
def znF(ta:TA):TI:=λσ H R=>ta σ H λvs H1=>∃i j:Int,vs=[.int i, .int j]/\(-(2^62)<=i/\i<2^62/\-(2^62)<=j/\j<2^62)/\R (Itr i (j -i).toNat) H1
theorem zj6{a:Expr}{ta:TA}{p pos:Pos}(hg:Gl X "range")(hm:X.mg "range"=none)(ha:PA X [a] ta)(hs:starEach [a] X.env=[(false,eval a X.env)]:=by rfl):PI X tg (.Call (.Name "range" p) [a] [] pos) (znC ta):=by
 intro pins s σ H R I h
 refine Call_ (zcx I hg hm boot_range (PyProof.Rows.callWith_type1 (thn (ha pos pins s σ H _ I h) λus s1 ⟨vs,H1,I1,r1,q1⟩=>?_) hs rfl))
 obtain⟨j,e,q1,q2,q⟩:=q1
 subst e
 cases r1 with
 |cons r rr=>
  cases rr
  obtain⟨t,rfl⟩:=r
  exact call_range_1 (zhu I1 (by omega) (by omega) q1 q2 (by simpa using q))
theorem zjw{a b:Expr}{ta:TA}{p pos:Pos}(hg:Gl X "range")(hm:X.mg "range"=none)(ha:PA X [a,b] ta)(hs:starEach [a,b] X.env=[(false,eval a X.env),(false,eval b X.env)]:=by rfl)(hs2:starEach [b] X.env=[(false,eval b X.env)]:=by rfl):
 PI X tg (.Call (.Name "range" p) [a,b] [] pos) (znF ta):=by
 intro pins s σ H R I h
 refine Call_ (zcx I hg hm boot_range (PyProof.Rows.callWith_type1 (thn (ha pos pins s σ H _ I h) λus s1 ⟨vs,H1,I1,r1,q1⟩=>?_) (by rw[hs,hs2]) (by rw[hs2];rfl)))
 obtain⟨i,j,e,⟨q1,q2,q3,q4⟩,q⟩:=q1
 subst e
 cases r1 with
 |cons r rr=>
  cases rr with
  |cons r' rr=>
   cases rr
   obtain⟨t,rfl⟩:=r
   obtain⟨t',rfl⟩:=r'
   exact call_range_2 (zhu I1 q1 q2 q3 q4 q)
def zqg(wi:TI)(g:TG)(tb:TS):TS:=λD σ H=>wi σ H λJ H1=>∃W:Nat->Nat->St->Hp->Prop,(∃m,W 0 m σ H1)/\∀i m σ H,W i m σ H->
 (J.stop i H/\D.nx σ H)\/(J.go i H/\∃N:St->Hp->Prop,(∀σ' H',N σ' H'->∃m',m'<m/\W (i+1) m' σ' H')/\∀x H',J.yld i H x H'->g x σ H' λσ2 H2=>tb {D with nx:=N,ct:=N,bk:=D.nx} σ2 H2)
def zdd(fp:List Addr)(h:Heap):List (Addr×Obj):=fp.filterMap λb=>(h.get? b).map λo=>(b,o)
theorem zaf{fp:List Addr}{h:Heap}{b:Addr}{o:Obj}(hb:b∈fp)(e:h.get? b=some o):(b,o)∈zdd fp h:=List.mem_filterMap.mpr ⟨b,hb,by rw[e];rfl⟩
theorem zjR{fp:List Addr}{h:Heap}{p:Addr×Obj}(hp:p∈zdd fp h):p.1∈fp/\h.get? p.1=some p.2:=by
 obtain⟨b,hb,e⟩:=List.mem_filterMap.mp hp
 cases q:h.get? b with
 |none=>rw[q] at e;cases e
 |some o=>
  rw[q] at e
  have e':(b,o)=p:=Option.some.inj e
  subst e'
  exact⟨hb,q⟩
theorem Inv.pinned{pins:List (Addr×Obj)}{σ:St}{H:Hp}{s:Shared}{fp:List Addr}(I:Inv X pins σ H s)(hf:∀b∈fp,zc5 X pins H b)(ho:∀b∈fp,∃o,s.heap.get? b=some o/\∀v,o.data≠ .cell v):Inv X (pins ++zdd fp s.heap) σ H s:=
 I.pins_of λp hp=>(List.mem_append.mp hp).elim (λz=>I.pin p (List.mem_append_right _ z)) λz=>by
  obtain⟨hb,e⟩:=zjR z
  obtain⟨f0,f1,f2,_⟩:=hf p.1 hb
  obtain⟨o,e',d⟩:=ho p.1 hb
  rw[e] at e';cases e'
  exact⟨e,f0,f1,f2,d⟩
theorem Inv.unpinned{pins pl:List (Addr×Obj)}{σ:St}{H:Hp}{s:Shared}(I:Inv X (pins ++pl) σ H s):Inv X pins σ H s:=I.pins_of λp hp=>I.pin p (List.mem_append_right _ (List.mem_append_left _ hp))
theorem zom{iter:Expr}{body:List Stmt}{wi:TI}{g:TG}{tb:TS}{pos:Pos}(hp:PassesOwn (model X.prog X.w) X.A X.env X.xe)(hc:X.calm=true)(hi:PI X tg iter wi)(hg:PG X tg g)(hb:PSs X body tb)
 (hs:∀x,foldedSetIterable iter X.env x=pure x:=by intro _;rfl):PS X (.For tg iter body [] pos) (zqg wi g tb):=by
 intro pins s σ H D I h
 refine wpAny_For (thn (hi pins s σ H _ I h) λv s1 h1=>thn h1 λitv s2 h2=>?_) hs
 obtain⟨it,fp,tn,J,H2,e,I2,T,st2,f2,W,⟨m0,w0⟩,turn⟩:=h2
 subst e
 have stat:∀{H':Hp},(∀b∈fp,H' b=none)->∀b∈fp,zc5 X pins H' b:=λhn b hb=>⟨hn b hb,(f2 b hb).2⟩
 refine codeAny_forLoop_any (λn s'=>∃i σ' H',Inv X pins σ' H' s'/\tn i s'.heap/\(∀b∈fp,H' b=none)/\W i n σ' H') ?_ m0 ⟨0,σ,H2,I2,st2,λb hb=>(f2 b hb).1,w0⟩
 rintro n s3 ⟨i,σ3,H3,I3,st3,fr3,w3⟩
 rcases turn i n σ3 H3 w3 with⟨stop,qn⟩|⟨go,N,hN,step⟩
 ·refine wpAny_passesOwn hp (thn (T.done X rfl rfl rfl hc i pins s3 σ3 H3 X.xe I3 (stat fr3) st3 stop) λr s4 ⟨hr,I4⟩=>?_)
  subst hr
  exact wpAny_execs_nil ⟨σ3,H3,I4,qn⟩
 ·refine wpAny_passesOwn hp (thn (T.item X rfl rfl rfl hc i pins s3 σ3 H3 X.xe I3 (stat fr3) st3 go) λr s4 ⟨u,hr,h4⟩=>?_)
  subst hr
  refine wpAny_passesOwn hp (thn h4 λ_ s5 ⟨x,H5,I5,r5,y5,st5,fr5⟩=>?_)
  have I5':=I5.pinned (stat fr5) (T.obj _ _ st5)
  refine wpAny_passesOwn hp (thn (hg _ s5 σ3 H5 x u _ I5' r5 (step x H5 y5)) λ_ s6 ⟨σ6,H6,I6,q6⟩=>?_)
  refine wpAny_passesOwn hp (thn (hb _ s6 σ6 H6 _ I6 q6) λf s7 q7=>?_)
  have again:∀{σ7:St} {H7:Hp},Inv X (pins ++zdd fp s5.heap) σ7 H7 s7->N σ7 H7->∃m,m<n/\∃i σ' H',Inv X pins σ' H' s7/\tn i s7.heap/\(∀b∈fp,H' b=none)/\W i m σ' H':=λ{σ7 H7} I7 n7=>by
   obtain⟨m',hm,w7⟩:=hN σ7 H7 n7
   refine⟨m',hm,i+1,σ7,H7,I7.unpinned,T.keep _ _ _ st5 λb hb o e=>(I7.pin (b,o) (List.mem_append_right _ (List.mem_append_right _ (zaf hb e)))).1,λb hb=>?_,w7⟩
   obtain⟨o,e,d⟩:=T.obj _ _ st5 b hb
   exact(I7.pin (b,o) (List.mem_append_right _ (List.mem_append_right _ (zaf hb e)))).2.1
  cases f with
  |next=>obtain ⟨σ7,H7,I7,n7⟩:=q7;exact again I7 n7
  |cont=>obtain ⟨σ7,H7,I7,n7⟩:=q7;exact again I7 n7
  |brk=>obtain ⟨σ7,H7,I7,q7⟩:=q7;exact⟨σ7,H7,I7.unpinned,q7⟩
  |ret v=>obtain ⟨x7,σ7,H7,I7,r7,q7⟩:=q7;exact⟨x7,σ7,H7,I7.unpinned,r7,q7⟩
end
abbrev R2:=V->V->Hp->VK->Prop
def OpR(X:Cx)(f:Value->Value->Sem Value)(r:R2):Prop:=
 ∀(pins:List (Addr×Obj)) (s:Shared) (σ:St) (H:Hp) (x y:V) (v u:Value) (Q:VK),Inv X pins σ H s->RelV x v->RelV y u->r x y H Q->
  wpAny (model X.prog X.w) X.A (f v u) (EP X pins σ Q) X.xe s
def UnR(X:Cx)(f:Value->Sem Value)(r:V->Hp->VK->Prop):Prop:=
 ∀(pins:List (Addr×Obj)) (s:Shared) (σ:St) (H:Hp) (x:V) (v:Value) (Q:VK),Inv X pins σ H s->RelV x v->r x H Q->
  wpAny (model X.prog X.w) X.A (f v) (EP X pins σ Q) X.xe s
def CallR(X:Cx)(f:Value)(r:List V->Hp->VK->Prop):Prop:=
 ∀(pins:List (Addr×Obj)) (s:Shared) (σ:St) (H:Hp) (xs:List V) (us:List Value) (Q:VK),Inv X pins σ H s->Vals xs us->r xs H Q->
  wpAny (model X.prog X.w) X.A (call f us) (EP X pins σ Q) X.xe s
def zp3(X:Cx)(r:V->Hp->(Bool->Hp->Prop)->Prop):Prop:=
 ∀(pins:List (Addr×Obj)) (s:Shared) (σ:St) (H:Hp) (x:V) (v:Value) (Q:Bool->Hp->Prop),Inv X pins σ H s->RelV x v->r x H Q->
  wpAny (model X.prog X.w) X.A (truthy v) (TP X pins σ Q) X.xe s
def tOp(r:R2)(ta tb:TE):TE:=λσ H Q=>ta σ H λx H1=>tb σ H1 λy H2=>r x y H2 Q
def tUn(r:V->Hp->VK->Prop)(ta:TE):TE:=λσ H Q=>ta σ H λx H1=>r x H1 Q
def rI(C:Int->Int->Prop)(g:Int->Int->V):R2:=λx y H Q=>∃i j,x= .int i/\y= .int j/\C i j/\Q (g i j) H
def rI0(g:Int->Int->V):R2:=λx y H Q=>∃i j,x= .int i/\y= .int j/\Q (g i j) H
def rU(g:Int->V):V->Hp->VK->Prop:=λx H Q=>∃i,x= .int i/\Q (g i) H
section
variable{X:Cx}{a b c:Expr}{ta tb tc:TE}{pos:Pos}
theorem zoZ(ha:PE X a ta)(hb:PE X b tb){pins:List (Addr×Obj)}{s:Shared}{σ:St}{H:Hp}{R:V->V->Hp->Prop}(I:Inv X pins σ H s)
 (h:ta σ H λx H1=>tb σ H1 λy H2=>R x y H2) {Q:Value->Shared->Prop} {f:Value->Value->Sem Value}
 (hf:∀v u s2 x y H2,Inv X pins σ H2 s2->RelV x v->RelV y u->R x y H2->wpAny (model X.prog X.w) X.A (f v u) Q X.xe s2):
 wpAny (model X.prog X.w) X.A (eval a X.env) (λv s₁=>wpAny (model X.prog X.w) X.A (eval b X.env) (λu s₂=>wpAny (model X.prog X.w) X.A (f v u) Q X.xe s₂) X.xe s₁) X.xe s:=by
 refine thn (ha pins s σ H _ I h) λv s1 ⟨x,H1,I1,r1,q1⟩=>?_
 refine thn (hb pins s1 σ H1 _ I1 q1) λu s2 ⟨y,H2,I2,r2,q2⟩=>?_
 exact hf v u s2 x y H2 I2 r1 r2 q2
theorem zpS{op:Operator}{r:R2}(ho:OpR X (binaryOp op) r)(ha:PE X a ta)(hb:PE X b tb):PE X (.BinOp a op b pos) (tOp r ta tb):=by
 intro pins s σ H Q I h
 exact wpAny_BinOp (zoZ ha hb I h λv u s2 x y H2 I2 rx ry q=>ho pins s2 σ H2 x y v u Q I2 rx ry q)
theorem zpX{op:UnaryOp}{r:V->Hp->VK->Prop}(ho:UnR X (unaryOp op) r)(ha:PE X a ta):PE X (.UnaryOp op a pos) (tUn r ta):=by
 intro pins s σ H Q I h
 exact UnaryOp_ (thn (ha pins s σ H _ I h) λv s1 ⟨x,H1,I1,r1,q1⟩=>ho pins s1 σ H1 x v Q I1 r1 q1)
theorem opI{f:Value->Value->Sem Value}{C:Int->Int->Prop}{g:Int->Int->Int}
 (rule:∀(i j:Int) (t u:Tok) (s:Shared) (Q:Value->Shared->Prop) (E:Value->Shared->Prop),C i j->Q (.int (g i j) s.toks) {s with toks:=s.toks+1}->wpAny (model X.prog X.w) X.A (f (.int i t) (.int j u)) Q E s):
 OpR X f (rI C λi j=> .int (g i j)):=by
 intro pins s σ H x y v u Q I rx ry h
 obtain⟨i,j,rfl,rfl,hc,q⟩:=h
 obtain⟨t,rfl⟩:=rx
 obtain⟨t',rfl⟩:=ry
 exact rule i j t t' s _ _ hc ⟨.int (g i j),H,I.tok _,⟨_,rfl⟩,q⟩
theorem zpT{f:Value->Value->Sem Value}{g:Int->Int->Int}
 (rule:∀(i j:Int) (t u:Tok) (s:Shared) (Q:Value->Shared->Prop) (E:Value->Shared->Prop),Q (.int (g i j) s.toks) {s with toks:=s.toks+1}->wpAny (model X.prog X.w) X.A (f (.int i t) (.int j u)) Q E s):
 OpR X f (rI0 λi j=> .int (g i j)):=by
 intro pins s σ H x y v u Q I rx ry h
 obtain⟨i,j,rfl,rfl,q⟩:=h
 obtain⟨t,rfl⟩:=rx
 obtain⟨t',rfl⟩:=ry
 exact rule i j t t' s _ _ ⟨.int (g i j),H,I.tok _,⟨_,rfl⟩,q⟩
theorem zoo{f:Value->Value->Sem Value}{g:Int->Int->Bool}
 (rule:∀(i j:Int) (t u:Tok) (s:Shared) (Q:Value->Shared->Prop) (E:Value->Shared->Prop),Q (.bool (g i j)) s->wpAny (model X.prog X.w) X.A (f (.int i t) (.int j u)) Q E s):
 OpR X f (rI0 λi j=> .bl (g i j)):=by
 intro pins s σ H x y v u Q I rx ry h
 obtain⟨i,j,rfl,rfl,q⟩:=h
 obtain⟨t,rfl⟩:=rx
 obtain⟨t',rfl⟩:=ry
 exact rule i j t t' s _ _ ⟨.bl (g i j),H,I,rfl,q⟩
def zp0(i j:Int):Prop:=0<j/\j<1073741824
def zqe(i j:Int):Prop:=0<=j/\j<=1000000/\i.natAbs<2^64
def CMul(i j:Int):Prop:=(-(2^64)<i/\i<2^64)\/(-(2^64)<j/\j<2^64)
theorem CMul.ok{i j:Int}(h:CMul i j):IntMulOk i j:=by
 rcases h with⟨h1,h2⟩|⟨h1,h2⟩
 ·exact .of_left (intBits_le_64 h1 h2)
 ·exact .of_right (intBits_le_64 h1 h2)
theorem zab:OpR X (binaryOp .Add) (rI0 λi j=> .int (i+j)):=zpT λ_ _ _ _ _ _ _ q=>add_int q
theorem zlz:OpR X (binaryOp .Sub) (rI0 λi j=> .int (i -j)):=zpT λ_ _ _ _ _ _ _ q=>sub_int q
theorem zbk:OpR X (binaryOp .Mult) (rI CMul λi j=> .int (i*j)):=opI λ_ _ _ _ _ _ _ hc q=>mul_int q hc.ok
theorem zf7:OpR X (binaryOp .FloorDiv) (rI zp0 λi j=> .int (i/j)):=opI λi j _ _ _ _ _ hc q=>by
 have h1:(0:Int)<j:=hc.1
 have h2:j<1073741824:=hc.2
 exact floordiv_int (by omega) (by rw[Int.fdiv_eq_ediv_of_nonneg i (by omega)];exact q) (.inl (PyProof.noPylong_small (by omega)))
theorem zct:OpR X (binaryOp .Mod) (rI (λ_ j=>0<j) λi j=> .int (i%j)):=opI λi j _ _ _ _ _ hc q=>by
 have h1:(0:Int)<j:=hc
 exact mod_int' (by omega) (by rw[Int.fmod_eq_emod_of_nonneg i (by omega)];exact q)
theorem zor:OpR X (binaryOp .Pow) (rI zqe λi j=> .int (i^j.toNat)):=opI λ_ _ _ _ _ _ _ hc q=>pow_int_small hc.1 hc.2.1 hc.2.2 q
theorem unI{f:Value->Sem Value}{g:Int->Int}
 (rule:∀(i:Int) (t:Tok) (s:Shared) (Q:Value->Shared->Prop) (E:Value->Shared->Prop),Q (.int (g i) s.toks) {s with toks:=s.toks+1}->wpAny (model X.prog X.w) X.A (f (.int i t)) Q E s):
 UnR X f (rU λi=> .int (g i)):=by
 intro pins s σ H x v Q I rx h
 obtain⟨i,rfl,q⟩:=h
 obtain⟨t,rfl⟩:=rx
 exact rule i t s _ _ ⟨.int (g i),H,I.tok _,⟨_,rfl⟩,q⟩
theorem zdW:UnR X (unaryOp .USub) (rU λi=> .int (-i)):=unI λ_ _ _ _ _ q=>neg_int q
end
def zoF:V->V->Bool
 | .non, .non=>true| .non, .int _=>true| .int _, .non=>true| .non, .bl _=>true| .bl _, .non=>true| .non, .str _=>true| .str _, .non=>true
 | .int _, .int _=>true| .bl _, .bl _=>true| .str _, .str _=>true| .byt _, .byt _=>true
 | .int _, .str _=>true| .str _, .int _=>true| .bl _, .str _=>true| .str _, .bl _=>true
 |_,_=>false
def rEq:R2:=λx y H Q=>zoF x y=true/\Q (.bl (decide (x=y))) H
def rNe:R2:=λx y H Q=>zoF x y=true/\Q (.bl (!decide (x=y))) H
theorem ziT{i j:Int}:decide (V.int i=V.int j)=(i==j):=by
 rw[Bool.eq_iff_iff]
 simp
theorem zkP{i j:Bool}:decide (V.bl i=V.bl j)=(i==j):=by
 rw[Bool.eq_iff_iff]
 simp
theorem zi0{i j:Str}:decide (V.str i=V.str j)=(i==j):=by
 rw[Bool.eq_iff_iff]
 simp
theorem ziH{i j:Array UInt8}:decide (V.byt i=V.byt j)=(i.toList==j.toList):=by
 rw[Bool.eq_iff_iff]
 cases i
 cases j
 simp
section
variable{X:Cx}{a b c:Expr}{ta tb tc:TE}{pos:Pos}
theorem zF{pins:List (Addr×Obj)}{σ:St}{H:Hp}{s:Shared}{Q:VK}{k k':Bool}(I:Inv X pins σ H s)(q:Q (.bl k) H)(e:k=k'):EP X pins σ Q (.bool k') s:=by
 subst e
 exact⟨.bl k,H,I,rfl,q⟩
theorem zak:OpR X (compareOp .Eq) rEq:=by
 intro pins s σ H x y v u Q I rx ry h
 obtain⟨hs,q⟩:=h
 cases x with
 |non=>
  cases rx
  cases y with
  |non=>cases ry;exact PySem.EqNone.eq_none_none (zF I q (by simp))
  |bl j=>cases ry;exact PySem.EqNone.eq_none_bool (zF I q (by simp))
  |int j=>obtain ⟨t',rfl⟩:=ry;exact PySem.EqNone.eq_none_int (zF I q (by simp))
  |str j=>obtain ⟨t',rfl⟩:=ry;exact PySem.EqNone.eq_none_str (zF I q (by simp))
  |_=>exact absurd (show false=true from hs) Bool.false_ne_true
 |bl i=>
  cases rx
  cases y with
  |non=>cases ry;exact PySem.EqNone.eq_bool_none (zF I q (by simp))
  |bl j=>cases ry;exact eq_bool (zF I q zkP)
  |str j=>obtain ⟨t',rfl⟩:=ry;exact PySem.EqMixed.eq_bool_str (zF I q (by simp))
  |_=>exact absurd (show false=true from hs) Bool.false_ne_true
 |int i=>
  obtain⟨t,rfl⟩:=rx
  cases y with
  |non=>cases ry;exact PySem.EqNone.eq_int_none (zF I q (by simp))
  |int j=>obtain ⟨t',rfl⟩:=ry;exact eq_int (zF I q ziT)
  |str j=>obtain ⟨t',rfl⟩:=ry;exact PySem.EqMixed.eq_int_str (zF I q (by simp))
  |_=>exact absurd (show false=true from hs) Bool.false_ne_true
 |str i=>
  obtain⟨t,rfl⟩:=rx
  cases y with
  |non=>cases ry;exact PySem.EqNone.eq_str_none (zF I q (by simp))
  |bl j=>cases ry;exact PySem.EqMixed.eq_str_bool (zF I q (by simp))
  |int j=>obtain ⟨t',rfl⟩:=ry;exact PySem.EqMixed.eq_str_int (zF I q (by simp))
  |str j=>obtain ⟨t',rfl⟩:=ry;exact eq_str (zF I q zi0)
  |_=>exact absurd (show false=true from hs) Bool.false_ne_true
 |byt i=>
  obtain⟨t,rfl⟩:=rx
  cases y with
  |byt j=>obtain ⟨t',rfl⟩:=ry;exact PySem.W.eq_bytes (zF I q ziH)
  |_=>exact absurd (show false=true from hs) Bool.false_ne_true
 |_=>cases y<;>exact absurd (show false=true from hs) Bool.false_ne_true
theorem znH:OpR X (compareOp .NotEq) rNe:=by
 intro pins s σ H x y v u Q I rx ry h
 obtain⟨hs,q⟩:=h
 cases x with
 |non=>
  cases rx
  cases y with
  |non=>cases ry;exact PySem.EqNone.ne_none_none (zF I q (by simp))
  |bl j=>cases ry;exact PySem.EqNone.ne_none_bool (zF I q (by simp))
  |int j=>obtain ⟨t',rfl⟩:=ry;exact PySem.EqNone.ne_none_int (zF I q (by simp))
  |str j=>obtain ⟨t',rfl⟩:=ry;exact PySem.EqNone.ne_none_str (zF I q (by simp))
  |_=>exact absurd (show false=true from hs) Bool.false_ne_true
 |bl i=>
  cases rx
  cases y with
  |non=>cases ry;exact PySem.EqNone.ne_bool_none (zF I q (by simp))
  |bl j=>cases ry;exact ne_bool (zF I q (congrArg not zkP))
  |str j=>obtain ⟨t',rfl⟩:=ry;exact PySem.EqMixed.ne_bool_str (zF I q (by simp))
  |_=>exact absurd (show false=true from hs) Bool.false_ne_true
 |int i=>
  obtain⟨t,rfl⟩:=rx
  cases y with
  |non=>cases ry;exact PySem.EqNone.ne_int_none (zF I q (by simp))
  |int j=>obtain ⟨t',rfl⟩:=ry;exact ne_int (zF I q (congrArg not ziT))
  |str j=>obtain ⟨t',rfl⟩:=ry;exact PySem.EqMixed.ne_int_str (zF I q (by simp))
  |_=>exact absurd (show false=true from hs) Bool.false_ne_true
 |str i=>
  obtain⟨t,rfl⟩:=rx
  cases y with
  |non=>cases ry;exact PySem.EqNone.ne_str_none (zF I q (by simp))
  |bl j=>cases ry;exact PySem.EqMixed.ne_str_bool (zF I q (by simp))
  |int j=>obtain ⟨t',rfl⟩:=ry;exact PySem.EqMixed.ne_str_int (zF I q (by simp))
  |str j=>obtain ⟨t',rfl⟩:=ry;exact ne_str (zF I q (congrArg not zi0))
  |_=>exact absurd (show false=true from hs) Bool.false_ne_true
 |byt i=>
  obtain⟨t,rfl⟩:=rx
  cases y with
  |byt j=>obtain ⟨t',rfl⟩:=ry;exact PySem.W.ne_bytes (zF I q (congrArg not ziH))
  |_=>exact absurd (show false=true from hs) Bool.false_ne_true
 |_=>cases y<;>exact absurd (show false=true from hs) Bool.false_ne_true
theorem zpf:OpR X (compareOp .Lt) (rI0 λi j=> .bl (decide (i<j))):=zoo λ_ _ _ _ _ _ _ q=>lt_int q
theorem zkh:OpR X (compareOp .Gt) (rI0 λi j=> .bl (decide (j<i))):=zoo λ_ _ _ _ _ _ _ q=>gt_int q
theorem znK:OpR X (compareOp .GtE) (rI0 λi j=> .bl (decide (j<=i))):=zoo λ_ _ _ _ _ _ _ q=>ge_int q
theorem zeC:OpR X (compareOp .Is) (λx y H Q=>y= .non/\Q (.bl (decide (x= .non))) H):=by
 intro pins s σ H x y v u Q I rx ry h
 obtain⟨rfl,q⟩:=h
 cases ry
 refine is_none_gen (zF I q ?_)
 cases x<;>first
  |(cases rx;rfl)
  |(obtain⟨t,rfl⟩:=rx;rfl)
theorem znm{op:CmpOp}{r:R2}(ho:OpR X (compareOp op) r)(ha:PE X a ta)(hb:PE X b tb)(hm:behindInMarks op b=false):PE X (.Compare a [op] [b] pos) (tOp r ta tb):=by
 intro pins s σ H Q I h
 exact wpAny_Compare1 (zoZ ha hb I h λv u s2 x y H2 I2 rx ry q=>ho pins s2 σ H2 x y v u Q I2 rx ry q) hm
def znJ(t:TE):TT:=λσ H Q=>t σ H λx H'=>∃k,x= .bl k/\Q k H'
theorem zmd{op:CmpOp}{r:R2}(ho:OpR X (compareOp op) r)(ha:PE X a ta)(hb:PE X b tb)(hm:behindInMarks op b=false):PT X (.Compare a [op] [b] pos) (znJ (tOp r ta tb)):=by
 intro pins s σ H Q I h
 refine wpAny_isTrue_Compare1 (thn (ha pins s σ H _ I h) λv s1 ⟨x,H1,I1,r1,q1⟩=>thn (hb pins s1 σ H1 _ I1 q1) λu s2 ⟨y,H2,I2,r2,q2⟩=>
  thn (ho pins s2 σ H2 x y v u _ I2 r1 r2 q2) λc s3 ⟨z,H3,I3,r3,k,e,q3⟩=>?_) hm
 subst e
 cases r3
 exact wpAny_truthy_bool ⟨H3,I3,q3⟩
def znZ(K:PySem.W.Frag)(x:V)(H:Hp)(k:Bool):Prop:=
 match x with
 | .non=>k=false
 | .bl b=>k=b
 | .int i=>k=(i !=0)
 | .str y=>y.length<=sizeLine/\k=((y.length:Int) !=0)
 | .byt y=>y.size<=sizeLine/\k=((y.size:Int) !=0)
 | .ref p=>(∃xs,SqL K H p xs/\k=!xs.isEmpty)\/(∃xs,SqT K H p xs/\k=!xs.isEmpty)\/∃kvs,H p=some (.dK kvs)/\k=!kvs.isEmpty
 |_=>False
theorem zib{κ:Type}{kvs:List (κ×V)}{vs:List (κ×Value)}(r:KV kvs vs):(!vs.isEmpty)=!kvs.isEmpty:=by
 cases r<;>rfl
theorem ze0{xs:List V}{its:List Value}(r:Vals xs its):(!its.toArray.isEmpty)=!xs.isEmpty:=by
 cases r<;>simp
theorem zdl:(sizeLine:Nat)<2^63:=by rw[sizeLine_eq];decide
theorem zoJ:zp3 X (λx H Q=>∃k,znZ X.K x H k/\Q k H):=by
 intro pins s σ H x v Q I rx h
 obtain⟨k,e,q⟩:=h
 have hl:=zdl
 have hs:sizeLine=16777216:=sizeLine_eq
 cases x with
 |non=>
  cases rx
  have e':k=false:=e
  subst e'
  exact truthy_none ⟨H,I,q⟩
 |bl b=>
  cases rx
  have e':k=b:=e
  subst e'
  exact wpAny_truthy_bool ⟨H,I,q⟩
 |int i=>
  obtain⟨t,rfl⟩:=rx
  have e':k=(i !=0):=e
  subst e'
  exact PySem.P.truthy_int ⟨H,I,q⟩
 |str y=>
  obtain⟨t,rfl⟩:=rx
  obtain⟨hy,e'⟩:y.length<=sizeLine/\k=((y.length:Int) !=0):=e
  subst e'
  exact PySem.P.truthy_str (by omega) ⟨H,I.tok _,q⟩
 |byt y=>
  obtain⟨t,rfl⟩:=rx
  obtain⟨hy,e'⟩:y.size<=sizeLine/\k=((y.size:Int) !=0):=e
  subst e'
  exact PySem.W.truthy_bytes (by omega) ⟨H,I.tok _,q⟩
 |ref p=>
  cases rx
  have e':(∃xs,SqL X.K H p xs/\k=!xs.isEmpty)\/(∃xs,SqT X.K H p xs/\k=!xs.isEmpty)\/∃kvs,H p=some (.dK kvs)/\k=!kvs.isEmpty:=e
  rcases e' with⟨xs,hx,e'⟩|⟨xs,hx,e'⟩|⟨kvs,hx,e'⟩
  ·subst e'
   obtain⟨its,r,pl,hz⟩:=I.list hx
   have hlen:=r.length
   exact wpAny_truthy_list pl.isList (by simp only[List.size_toArray];omega) ⟨H,I.tok _,by rw[ze0 r];exact q⟩
  ·subst e'
   obtain⟨its,r,pl,hz⟩:=I.tuple hx
   have hlen:=r.length
   exact truthy_tuple pl (by simp only[List.size_toArray];omega) ⟨H,I.tok _,by rw[ze0 r];exact q⟩
  ·subst e'
   obtain⟨hz,hS,vs,r,m⟩:kvs.length<=sizeLine/\(p==sysModules)=false/\∃vs,KV kvs vs/\s.heap.DictOf (zah X.prog X.w) p vs:=I.hok p _ hx
   have hlen:kvs.length=vs.length:=Paired.length r
   exact wpAny_truthy_dict hS m (by omega) ⟨H,I.tok _,by rw[zib r];exact q⟩
 |_=>exact (show False from e).elim
theorem zlt(ha:PE X a ta)(he:∀whole,isTrue a X.env whole=(do let v ←whole;standAt a.pos;holding [v] (truthy v))):
 PT X a (λσ H Q=>ta σ H λx H'=>∃k,znZ X.K x H' k/\Q k H'):=by
 intro pins s σ H Q I h
 exact isTrue_plain (thn (ha pins s σ H _ I h) λv s1 ⟨x,H1,I1,r1,q1⟩=>zoJ pins s1 σ H1 x v Q I1 r1 q1) (he _)
theorem zb6{x:V}{us:List Value}(r:Vals [x] us):∃u,us=[u]/\RelV x u:=by
 cases r with
 |cons r1 r2=>cases r2;exact⟨_,rfl,r1⟩
theorem zfs{x y:V}{us:List Value}(r:Vals [x,y] us):∃u w',us=[u,w']/\RelV x u/\RelV y w':=by
 cases r with
 |cons r1 r2=>
  cases r2 with
  |cons r3 r4=>cases r4;exact⟨_,_,rfl,r1,r3⟩
theorem zjJ(hc:X.calm=true):CallR X (.builtin "max") (λxs H Q=>∃i j,xs=[.int i, .int j]/\Q (.int (if j>i then j else i)) H):=by
 intro pins s σ H xs us Q I r h
 obtain⟨i,j,rfl,q⟩:=h
 obtain⟨u,w',rfl,⟨t,rfl⟩,⟨t',rfl⟩⟩:=zfs r
 refine max_two_ints (I.ok.hd hc) λh' tk k=>⟨_,H,I.kept k,?_,q⟩
 by_cases hj:j>i
 ·rw[if_pos hj,if_pos hj];exact⟨_,rfl⟩
 ·rw[if_neg hj,if_neg hj];exact⟨_,rfl⟩
theorem zfC(hc:X.calm=true):CallR X (.builtin "min") (λxs H Q=>∃i j,xs=[.int i, .int j]/\Q (.int (if j<i then j else i)) H):=by
 intro pins s σ H xs us Q I r h
 obtain⟨i,j,rfl,q⟩:=h
 obtain⟨u,w',rfl,⟨t,rfl⟩,⟨t',rfl⟩⟩:=zfs r
 refine min_two_ints (I.ok.hd hc) λh' tk k=>⟨_,H,I.kept k,?_,q⟩
 by_cases hj:j<i
 ·rw[if_pos hj,if_pos hj];exact⟨_,rfl⟩
 ·rw[if_neg hj,if_neg hj];exact⟨_,rfl⟩
theorem zcZ:CallR X (.type "int") (λxs H Q=>(∃i,xs=[.int i]/\Q (.int i) H)\/∃k,xs=[.bl k]/\Q (.int (if k then 1 else 0)) H):=by
 intro pins s σ H xs us Q I r h
 rcases h with⟨i,rfl,q⟩|⟨k,rfl,q⟩
 ·obtain ⟨u,rfl,t,rfl⟩:=zb6 r
  exact call_int_int ⟨.int i,H,I,⟨_,rfl⟩,q⟩
 ·obtain ⟨u,rfl,r1⟩:=zb6 r
  cases r1
  exact call_int_bool ⟨.int (if k then 1 else 0),H,I.tok _,⟨_,rfl⟩,q⟩
end
structure ObjM(h:Heap)(x dx C:Addr)(mA:Str->Option Value):Prop where
 obj:h.get? x=some (PySem.W.instObj C dx)
 ns:h.Ns1 dx mA
 ne:dx≠x
section
variable{prog:Program}{w:World}{A:Around}{E:Value->Shared->Prop}{s:Shared}{K:PySem.W.Frag}{x dx C f:Addr}{mA:Str->Option Value}{name:Str}{v:Value}
end
theorem RelO.some_of{v:V}{o:Option Value}(r:RelO (some v) o):∃u,o=some u/\RelV v u:=by
 cases o with
 |none=>exact (show False from r).elim
 |some u=>exact ⟨u,rfl,r⟩
section
variable{P:Program}{w:World}{H H':Hp}{h h':Heap}{a C dx:Addr}{fs fs':List (Str×V)}
end
structure Cls(K:PySem.W.Frag)(C:Addr):Prop where
 pg:PySem.W.plainGet K C Str.empty=true
 hd:PySem.W.hasDictIn K C=true
 po:PySem.W.plainOver K C=true
 sa:PySem.W.findIn K (.ref C) "__setattr__"=some (some (.builtin "object.__setattr__"))
structure Con(K:PySem.W.Frag)(C:Addr)(f:Str)(v:V)(u:Value):Prop where
 at_:PySem.W.findIn K (.ref C) f=some (some u)
 rel:RelV v u
 get:PySem.W.specialIn K u "__get__"=some none
 cp:PySem.W.copiedNames.contains f=false
structure Meth(K:PySem.W.Frag)(C:Addr)(m:Str)(f:Addr):Prop where
 at_:PySem.W.findIn K (.ref C) m=some (some (.ref f))
 fn:PySem.W.isFn K (.ref f)=true
 kp:PySem.W.keepIn K (.ref f)=true
section
variable{X:Cx}{pins:List (Addr×Obj)}{σ:St}{H:Hp}{s:Shared}{a C dx:Addr}{fs:List (Str×V)}{f:Str}{v:V}{A:Around}{E:Value->Shared->Prop}
end
section
variable{X:Cx}{o e value:Expr}{f:Str}{pos pos' tpos:Pos}{ta tv:TE}
end
section
variable{X:Cx}{pins:List (Addr×Obj)}{σ:St}{H:Hp}{s:Shared}{A:Around}{E:Value->Shared->Prop}{Q:Value->Shared->Prop}{c:Value}{b:Bool}
inductive TyOf(K:PySem.W.Frag)(H:Hp):V->Value->Prop where
 |non:TyOf K H .non (.type "NoneType")
 |bl (x:Bool):TyOf K H (.bl x) (.type "bool")
 |int (i:Int):TyOf K H (.int i) (.type "int")
 |str (x:Str):TyOf K H (.str x) (.type "str")
 |flt (x:UInt64):TyOf K H (.flt x) (.type "float")
 |lst {a:Addr} {xs:List V} (e:H a=some (.lst xs)):TyOf K H (.ref a) (.type "list")
 |frz {a:Addr} {o:Obj} {xs:List V} (e:H a=some (.frz o (.lst xs))):TyOf K H (.ref a) (.type "list")
 |tup {a:Addr} {xs:List V} (e:H a=some (.tup xs)):TyOf K H (.ref a) (.type "tuple")
 |dK {a:Addr} {kvs:List (Key×V)} (e:H a=some (.dK kvs)):TyOf K H (.ref a) (.type "dict")
 |dT {a:Addr} {kvs:List (List Key×V)} (e:H a=some (.dT kvs)):TyOf K H (.ref a) (.type "dict")
 |ins {a C dx:Addr} {fs:List (Str×V)} (e:H a=some (.ins C dx fs)) (cl:Cls K C) (ha:PySem.W.findIn K (.ref C) "__class__"=some (some (.builtin "object.__class__")))
   (hn:PySem.W.specialIn K (.builtin "object.__class__") "__get__"=some (some (.builtin "getset_descriptor.__get__"))) (htk:PySem.W.takesIn K (.builtin "object.__class__")=some true)
   (hm:PySem.W.mroIn K C (.type "object")=some true):TyOf K H (.ref a) (.ref C)
end
structure Room(k:Nat)(A:Around):Prop where
 hd:A.handled=none
 dp:A.depth+3*k+5<recursionLimit
 un:A.units+16*k+200<cLine
 gd:A.guards=some []
theorem Room.mono{j k:Nat}{A:Around}(r:Room k A)(h:j<=k):Room j A:=⟨r.hd,by have:=r.dp;omega,by have:=r.un;omega,r.gd⟩
theorem Room.deeper{k:Nat}{A:Around}(r:Room (k+1) A)(env:Env):Room k (A.deeper env):=
 ⟨r.hd,by have:=r.dp;show A.depth+1+3*k+5<_;omega,by have:=r.un;show A.units+3+16*k+200<_;omega,r.gd⟩
theorem Room.depth{k:Nat}{A:Around}(r:Room k A):A.depth<recursionLimit:=by have:=r.dp;omega
theorem Room.units{k:Nat}{A:Around}(r:Room k A):A.units+64<cLine:=by have:=r.un;omega
def zob:TA:=λ_ H Q=>Q [] H
def zi7(ta:TE)(tr:TA):TA:=λσ H Q=>ta σ H λx H1=>tr σ H1 λxs H2=>Q (x::xs) H2
section
variable{X:Cx}{e:Expr}{es:List Expr}{te:TE}{t:TA}{pos:Pos}
theorem zlE:PA X [] zob:=λ_ _ _ _ H Q I h=>Calls.spliced_nil ⟨[],H,I, .nil,h⟩
theorem ziK(ha:PE X e te)(hr:PA X es t)(hs:starEach (e::es) X.env=(false,eval e X.env)::starEach es X.env:=by rfl):PA X (e::es) (zi7 te t):=by
 intro pos pins s σ H Q I h
 rw[hs]
 show wpAny _ _ (spliced ((false,eval e X.env)::backTo pos (starEach es X.env))) _ _ s
 refine Calls.spliced_cons (thn (ha pins s σ H _ I h) λu s1 ⟨x,H1,I1,r1,q1⟩=>?_)
 exact thn (hr pos pins s1 σ H1 _ I1 q1) λus s2 ⟨xs,H2,I2,r2,q2⟩=>⟨x::xs,H2,I2, .cons r1 r2,q2⟩
def zpB(t:TA):TE:=λσ H Q=>t σ H λxs H1=>xs.length<=sizeLine/\∀p,H1 p=none->Q (.ref p) (upd H1 p (.tup xs))
def zoT(t:TA):TE:=λσ H Q=>t σ H λxs H1=>xs.length<=sizeLine/\∀p,H1 p=none->Q (.ref p) (upd H1 p (.lst xs))
theorem zoE{x1}(h:PA X es t):PE X (.Tuple es x1 pos) (zpB t):=by
 intro pins s σ H Q I hq
 refine wpAny_Tuple_spliced (thn (h pos pins s σ H _ I hq) λus s1 ⟨xs,H1,I1,r,z,q⟩=>⟨by rw[←r.length];exact z,?_⟩)
 have hf:H1 s1.heap.objs.size=none:=I1.hok.fresh (Nat.le_refl _)
 refine⟨.ref s1.heap.objs.size,upd H1 s1.heap.objs.size (.tup xs),I1.laid (t':=s1.toks) (λb u e=>Heap.get?_push_of_some _ e) (Nat.le_refl _) ?_,rfl,q _ hf⟩
 exact⟨z,us,r,⟨_,Heap.get?_push_size _ rfl,rfl,_,rfl⟩,NoDict.new rfl (Heap.get?_push_size _ rfl)⟩
theorem zld(h:PA X es t):PE X (.List es pos) (zoT t):=by
 intro pins s σ H Q I hq
 refine wpAny_List_spliced (thn (h pos pins s σ H _ I hq) λus s1 ⟨xs,H1,I1,r,z,q⟩=>⟨by rw[←r.length];exact z,?_⟩)
 have hf:H1 s1.heap.objs.size=none:=I1.hok.fresh (Nat.le_refl _)
 refine⟨.ref s1.heap.objs.size,upd H1 s1.heap.objs.size (.lst xs),I1.laid (t':=s1.toks) (λb u e=>Heap.get?_push_of_some _ e) (Nat.le_refl _) ?_,rfl,q _ hf⟩
 exact⟨z,us,0,r,Heap.get?_push_size _ rfl⟩
end
abbrev Sp:=List V->Hp->VK->XK->Prop
abbrev CXT:=List Env->Hp->Shared->XK->Value->Shared->Prop
structure Env0(P:Program)(w:World)(K:PySem.W.Frag)(mg:Str->Option Value)(base:Heap)(A:Around)(outer:List Env)(s:Shared)(H:Hp):Prop where
 frames:A.frames=some outer
 mod:Mod K mg base
 bs:∀b o,base.get? b=some o->s.heap.get? b=some o/\H b=none
 bsz:base.objs.size<=s.heap.objs.size
 funs:s.heap.FunFrames base outer
 frf:∀b∈frs outer,H b=none
 hok:HOk P w H s.heap
 bare:AllBare s.gens
def CE(outer:List Env)(P:Program)(w:World)(H:Hp)(s:Shared)(Q:VK)(u:Value)(s':Shared):Prop:=
 ∃v H',s'.os=s.os/\AllBare s'.gens/\Un (frs outer) [] H H' s.heap s'.heap/\HOk P w H' s'.heap/\RelV v u/\Q v H'
def CR(CX:CXT)(outer:List Env)(P:Program)(w:World)(H:Hp)(s:Shared)(Q:VK)(E:XK)(r:Result)(s':Shared):Prop:=
 match r with
 | .ok (.ret u)=>CE outer P w H s Q u s'
 | .ok _=>False
 | .error e=>CX outer H s E e s'
structure FnOk(P:Program)(w:World)(K:PySem.W.Frag)(mg:Str->Option Value)(base:Heap)(CX:CXT)(k:Nat)(f:Addr)(fd:FuncData)(ps:List Str)(sp:Sp):Prop where
 len:∀vs H Q E,sp vs H Q E->vs.length=ps.length
 run:∀(A:Around) (outer:List Env) (s:Shared) (H:Hp) (args:Args) (us:List Value) (vs:List V) (Q:VK) (E:XK),Room k A->Env0 P w K mg base A outer s H->BindsTo s fd args (ps.zip us)->Vals vs us->sp vs H Q E->
  codeAny (model P w) A (.call (.ref f) args) (CR CX outer P w H s Q E) s
section
variable{X:Cx}{pins:List (Addr×Obj)}{σ:St}{H:Hp}{s s':Shared}
theorem Inv.env0(I:Inv X pins σ H s):Env0 X.prog X.w X.K X.mg X.base X.A X.stack s H:=
 ⟨I.ok.frames,I.ok.mod,I.bs,Nat.le_trans I.ok.bsz I.sz,I.stack,I.stkFree,I.hok,I.bare⟩
theorem Inv.after{Q:VK}{u:Value}(I:Inv X pins σ H s)(h:CE X.stack X.prog X.w H s Q u s'):EP X pins σ Q u s':=by
 obtain⟨v,H',os,bare,un,hok,r,q⟩:=h
 obtain⟨hh,g,d,t,os'⟩:=s'
 obtain rfl:os'=s.os:=os
 exact⟨v,H',I.call (h':=hh) (g':=g) (d':=d) (t':=t) (ch:=[]) un hok bare (λb z=>absurd z (by simp)),r,q⟩
end
def znB(sp:Sp)(dvs:List V)(E:XK)(t:TA):TE:=λσ H Q=>t σ H λvs H1=>sp (vs ++dvs) H1 Q E
def Binds(K:PySem.W.Frag)(fd:FuncData)(ps:List Str)(ds:List Value):Prop:=
 ∀(s:Shared) (us:List Value),K.In s.heap->(us ++ds).length=ps.length->BindsTo s fd ⟨us,[]⟩ (ps.zip (us ++ds))
theorem Binds.all{K:PySem.W.Frag}{fd:FuncData}{ps:List Str}(h:∀us:List Value,us.length=ps.length->bindArgs fd ⟨us,[]⟩=pure (ps.zip us)):Binds K fd ps []:=λs us _ hl=>by
 rw[List.append_nil] at hl⊢
 exact .of_eq (h us hl)
def zf1(CX:CXT)(X:Cx)(E:XK):Prop:=∀(pins:List (Addr×Obj)) (σ:St) (H:Hp) (s:Shared) (e:Value) (s':Shared),Inv X pins σ H s->CX X.stack H s E e s'->X.xe e s'
section
variable{X:Cx}{CX:CXT}{k:Nat}{f C:Addr}{fd:FuncData}{ps:List Str}{sp:Sp}{dvs:List V}{ds:List Value}{E:XK}{x m:Str}{p pos apos:Pos}{e o:Expr}{es:List Expr}{ta:TE}{t:TA}
theorem zn3{pins:List (Addr×Obj)}{σ:St}{H:Hp}{s:Shared}{Q:VK}{us:List Value}{vs:List V}(F:FnOk X.prog X.w X.K X.mg X.base CX k f fd ps sp)(hr:Room k X.A)(hb:Binds X.K fd ps ds)(hd:Vals dvs ds)(hx:zf1 CX X E)
 (I:Inv X pins σ H s) (r:Vals vs us) (h:sp (vs ++dvs) H Q E):wpAny (model X.prog X.w) X.A (call (.ref f) us) (EP X pins σ Q) X.xe s:=by
 have r2:Vals (vs ++dvs) (us ++ds):=r.append hd
 have hl:(us ++ds).length=ps.length:=by rw[←r2.length];exact F.len _ _ _ _ h
 refine wpAny_call (codeAny_mono (F.run X.A X.stack s H ⟨us,[]⟩ (us ++ds) (vs ++dvs) Q E hr I.env0 (hb s us I.kIn hl) r2 h) λr s' hq=>?_)
 cases r with
 |error e=>exact hx pins σ H s e s' I hq
 |ok fl=>
  cases fl with
  |ret u=>exact I.after hq
  |next=>exact False.elim hq
  |brk=>exact False.elim hq
  |cont=>exact False.elim hq
theorem zmy(F:FnOk X.prog X.w X.K X.mg X.base CX k f fd ps sp)(hr:Room k X.A)(hg:Gl X x)(hm:X.mg x=some (.ref f))(hk:PySem.W.keepIn X.K (.ref f)=true)(hb:Binds X.K fd ps ds)(hd:Vals dvs ds)(hx:zf1 CX X E)
 (ha:PA X (e::es) t) (hdb:(x==("__debug__":Str))=false:=by decide) (he:starEach (e::es) X.env=(false,eval e X.env)::starEach es X.env:=by rfl) (hpl:(backTo pos (starEach es X.env)).any (·.1)=false:=by rfl):
 PE X (.Call (.Name x p) (e::es) [] pos) (znB sp dvs E t):=by
 intro pins s σ H Q I h
 refine wpAny_Call_Name_kw (zjd I hg hm ?_ hdb)
 refine PySem.W.callWith_K (h₀:=X.base) I.ok.mod.kin hk (thn (ha pos pins s σ H _ I h) λus s1 ⟨vs,H1,I1,r,q⟩=>⟨I1.kIn,?_⟩) he hpl
 exact zn3 F hr hb hd hx I1 r q
structure Mk(K:PySem.W.Frag)(C f:Addr):Prop where
 makes:PySem.W.makesIn K C=true
 init:PySem.W.findIn K (.ref C) "__init__"=some (some (.ref f))
 fn:PySem.W.isFn K (.ref f)=true
 kp:PySem.W.keepIn K (.ref C)=true
end
section
variable{X:Cx}{CX:CXT}{k:Nat}{f C:Addr}{fd:FuncData}{ps ks:List Str}{sp:Sp}{E:XK}{x m:Str}{p pos apos kpos:Pos}{e o:Expr}{es:List Expr}{kws:List Keyword}{te ta:TE}{t tk:TA}{nm:Option Str}
structure KBinds(K:PySem.W.Frag)(fd:FuncData)(ps ks:List Str)(g:List Value->List Value->List Value)(gV:List V->List V->List V):Prop where
 to:∀(s:Shared) (us ws:List Value),K.In s.heap->(g us ws).length=ps.length->BindsTo s fd ⟨us,ks.zip ws⟩ (ps.zip (g us ws))
 rel:∀{vs:List V} {us:List Value} {zs:List V} {ws:List Value},Vals vs us->Vals zs ws->Vals (gV vs zs) (g us ws)
variable{g:List Value->List Value->List Value}{gV:List V->List V->List V}
end
structure FnScope(N P:List Str)(sc:Scope):Prop where
 kind:sc.kind= .function
 co:sc.isCoroutine=false
 gen:sc.isGenerator=false
 nd:N.Nodup
 pre:N.take P.length=P
 par:∀x∈P,sc.names.lookup x=some .local\/sc.names.lookup x=some .cell
 nofree:∀y∈sc.names,y.2≠ .free
theorem zfz{kindOf:Str->Option NameKind}{x:Str}:∀{binds:List (Str×Value)} {m:Str->Option Value},(∀v,(x,v)∉binds)->bindL kindOf binds m x=m x
 |[],_,_=>rfl
 |(n,v)::r,m,h=>by
  unfold bindL
  rw[zfz λw hw=>h w (List.mem_cons_of_mem _ hw)]
  split
  ·have:x≠n:=by rintro rfl;exact h v List.mem_cons_self
   simp[this]
  ·rfl
theorem zfx{kindOf:Str->Option NameKind}{x:Str}:∀{binds:List (Str×Value)} {m:Str->Option Value},(∀v,(x,v)∉binds)->bindC kindOf binds m x=m x
 |[],_,_=>rfl
 |(n,v)::r,m,h=>by
  unfold bindC
  rw[zfx λw hw=>h w (List.mem_cons_of_mem _ hw)]
  split
  ·rfl
  ·have:x≠n:=by rintro rfl;exact h v List.mem_cons_self
   simp[this]
theorem zfH{kindOf:Str->Option NameKind}{x:Str}{v:Value}:∀{P:List Str} {vs:List Value} {i:Nat} {m:Str->Option Value},P.Nodup->P[i]?=some x->vs[i]?=some v->kindOf x=some .local->
 bindL kindOf (P.zip vs) m x=some v
 |[],_,_,_,_,h,_,_=>by simp at h
 |_::_,[],_,_,_,_,h,_=>by simp at h
 |p::P,w::vs,0,m,nd,h1,h2,hk=>by
  simp at h1 h2;subst h1;subst h2
  show bindL kindOf ((p,w)::P.zip vs) m p=_
  unfold bindL
  rw[zfz λv hv=>(List.nodup_cons.mp nd).1 (List.of_mem_zip hv).1,if_pos hk]
  simp
 |p::P,w::vs,i+1,m,nd,h1,h2,hk=>by
  show bindL kindOf ((p,w)::P.zip vs) m x=_
  unfold bindL
  exact zfH (i:=i) (List.nodup_cons.mp nd).2 (by simpa using h1) (by simpa using h2) hk
theorem zfG{kindOf:Str->Option NameKind}{x:Str}{v:Value}:∀{P:List Str} {vs:List Value} {i:Nat} {m:Str->Option Value},P.Nodup->P[i]?=some x->vs[i]?=some v->kindOf x≠some .local->
 bindC kindOf (P.zip vs) m x=some v
 |[],_,_,_,_,h,_,_=>by simp at h
 |_::_,[],_,_,_,_,h,_=>by simp at h
 |p::P,w::vs,0,m,nd,h1,h2,hk=>by
  simp at h1 h2;subst h1;subst h2
  show bindC kindOf ((p,w)::P.zip vs) m p=_
  unfold bindC
  rw[zfx λv hv=>(List.nodup_cons.mp nd).1 (List.of_mem_zip hv).1,if_neg hk]
  simp
 |p::P,w::vs,i+1,m,nd,h1,h2,hk=>by
  show bindC kindOf ((p,w)::P.zip vs) m x=_
  unfold bindC
  exact zfG (i:=i) (List.nodup_cons.mp nd).2 (by simpa using h1) (by simpa using h2) hk
def start(N:List Str)(vs:List V):St:=vs.map some ++List.replicate (N.length -vs.length) none
def zgL(CX:CXT)(P:Program)(w:World)(K:PySem.W.Frag)(mg:Str->Option Value)(base:Heap)(N:List Str)(qual:Str)(scope:Scope)(f:Addr)(cd:Value)(A:Around)(outer:List Env)(s:Shared)(H:Hp)(E:XK):Cx where
 prog:=P
 w:=w
 K:=K
 mg:=mg
 base:=base
 A:=A.deeper (envOfC qual scope s.heap.objs.size f cd)
 N:=N
 s₀:=s
 H₀:=H
 env:=envOfC qual scope s.heap.objs.size f cd
 outer:=outer
 stack:=envOfC qual scope s.heap.objs.size f cd::outer
 ex:=[]
 calm:=true
 fn:=λ_=>true
 pn:=[]
 xe:=λe s'=>wpAny (model P w) (A.deeper (envOfC qual scope s.heap.objs.size f cd)) (leaving (envOfC qual scope s.heap.objs.size f cd) e) (λ_ s''=>CX outer H s E e s'') (λe' s''=>CX outer H s E e' s'') s'
theorem zg8{sc:Scope}{n:Nat}{x:Str}(h:sc.names.lookup x=some .cell):∃c,(cellsFrom n sc.names []).lookup x=some c:=by
 have q:=PySem.W.cellsFrom_some sc.names n [] (.inl h)
 exact Option.isSome_iff_exists.mp q
theorem zjQ{CX:CXT}{P:Program}{w:World}{K:PySem.W.Frag}{mg:Str->Option Value}{base:Heap}{N ps:List Str}{qual:Str}{scope:Scope}{f:Addr}{cd:Value}{A:Around}{outer:List Env}{s s1:Shared}{H:Hp}{E:XK}{us:List Value}{vs:List V}
 (S:FnScope N ps scope) (hd:A.handled=none) (e0:Env0 P w K mg base A outer s H) (hl:vs.length=ps.length) (r:Vals vs us)
 (x:InCallC s s.heap.objs.size (bindL (envOfC qual scope s.heap.objs.size f cd).kindOf (ps.zip us) λ_=>none) (cellsFrom (s.heap.objs.size+1) scope.names []) (bindC (envOfC qual scope s.heap.objs.size f cd).kindOf (ps.zip us) λ_=>none) s1):
 Inv (zgL CX P w K mg base N qual scope f cd A outer s H E) [] (start N vs) H s1:=by
 have hpl:ps.length<=N.length:=by have:=congrArg List.length S.pre;rw[List.length_take] at this;omega
 obtain⟨h1,tk,rfl,hk⟩:=x.done
 have noA:∀b:Addr,b∉(zgL CX P w K mg base N qual scope f cd A outer s H E).ex:=λb z=>absurd (show b∈([]:List Addr)from z) (by simp)
 refine⟨⟨e0.mod,S.kind,rfl,rfl,Nat.le_refl _,λy z c h1 h2=>?_,λy hy=>?_,λy c _ h=>?_,λ_=>hd,Around.frames_deeper e0.frames, .inr ⟨rfl,rfl⟩,λb z=>absurd z (noA b),e0.bs,e0.bsz,λb _ _=>noA b,λb z=>absurd z (noA b),e0.funs,e0.frf⟩,
  rfl,e0.bare,Un.kept hk,⟨_,x.toInCall.ns,λi y v h1 h2 h3=>?_⟩,λy c h=>⟨_,x.cell y c h⟩,e0.hok.fresh (Nat.le_refl _),λy c h=>?_,λp hp=>absurd (show p∈([]:List (Addr×Obj))from hp) (by simp),e0.hok.kept hk,?_⟩
 ·exact name_of_addr x.apart (PySem.mem_of_lookup h1) (PySem.mem_of_lookup h2)
 ·have hy:scope.names.lookup y=some .cell\/scope.names.lookup y=some .free:=hy
  rcases hy with hy|hy
  ·exact zg8 hy
  ·exact absurd rfl (S.nofree _ (PySem.mem_of_lookup hy))
 ·exact Nat.le_of_lt (x.above y c (PySem.mem_of_lookup h))
 ·have hi:i<vs.length:=by
   unfold start at h2
   by_cases hi:i<vs.length
   ·exact hi
   ·rw[List.getElem?_append_right (by simpa using hi)] at h2
    rw[List.getElem?_replicate] at h2
    split at h2<;>cases h2
  have ha:vs[i]?=some v:=by
   unfold start at h2
   rw[List.getElem?_append_left (by simpa using hi),List.getElem?_map] at h2
   cases e:vs[i]? with
   |none=>rw[e] at h2;cases h2
   |some a=>rw[e] at h2;cases h2;rfl
  obtain⟨u,hu,rv⟩:=r.get ha
  have hp:ps[i]?=some y:=by
   rw[←S.pre,List.getElem?_take_of_lt (by omega)];exact h1
  have ndP:ps.Nodup:=by rw[←S.pre];exact S.nd.sublist (List.take_sublist _ _)
  refine⟨u,rv,?_⟩
  rcases S.par y (List.mem_of_getElem? hp)with k|k
  ·exact .inl ⟨k,zfH ndP hp hu k⟩
  ·obtain ⟨c,e⟩:=zg8 (n:=s.heap.objs.size+1) k
   refine .inr ⟨.inl k,c,e,?_⟩
   have q:=x.cell y c e
   rw[zfG ndP hp hu (by show scope.names.lookup y≠_;rw[k];decide)] at q
   exact q
 ·exact e0.hok.fresh (Nat.le_of_lt (x.above y c (PySem.mem_of_lookup h)))
 ·unfold start
  show _=N.length
  rw[List.length_append,List.length_map,List.length_replicate]
  omega
theorem znX{CX:CXT}{P:Program}{w:World}{K:PySem.W.Frag}{mg:Str->Option Value}{base:Heap}{k:Nat}{f:Addr}{name qual:Str}{params:Arguments}{body:List Stmt}{scope:Scope}{dV kV doc pm cdv ct oc:Value}{an od:Option Addr}
 {osl:Array (Option Value)} {N ps:List Str} {sp:Sp} (lk:K.lookup f=some ⟨oc,od, .func (PySem.W.fnOf name qual params body scope dV kV doc pm an cdv ct),osl⟩) (hcd:PySem.W.codeIn K cdv qual=true) (S:FnScope N ps scope)
 (len:∀vs H Q E,sp vs H Q E->vs.length=ps.length)
 (hbody:∀(A:Around) (outer:List Env) (s:Shared) (H:Hp) (vs:List V) (Q:VK) (E:XK),Room k (A.deeper (envOfC qual scope s.heap.objs.size f cdv))->sp vs H Q E->
   ∃t,PSs (zgL CX P w K mg base N qual scope f cdv A outer s H E) body t/\t {nx:=λ_ H'=>Q .non H',rt:=Q} (start N vs) H):
 FnOk P w K mg base CX (k+1) f (PySem.W.fnOf name qual params body scope dV kV doc pm an cdv ct) ps sp:=by
 refine⟨len,λA outer s H args us vs Q E hr e0 hb r hsp=>?_⟩
 have hl:=len _ _ _ _ hsp
 have KX:K.In s.heap:=e0.mod.kin.keeps λb o e=>(e0.bs b o e).1
 have lim:s.heap.NoLimit:=e0.mod.nolimit.keeps λb o e=>(e0.bs b o e).1
 have hkind:∀y∈ps.zip us,scope.names.lookup y.1=some .local\/(scope.names.lookup y.1=some .cell/\((cellsFrom (s.heap.objs.size+1) scope.names []).lookup y.1).isSome=true):=λ⟨n,v⟩ hy=>by
  rcases S.par n (List.of_mem_zip hy).1 with q|q
  ·exact .inl q
  ·exact .inr ⟨q,PySem.W.cellsFrom_some _ _ _ (.inl q)⟩
 refine codeAny_call_function hr.depth (KX _ _ lk) rfl S.co S.gen rfl (PySem.W.codeRec_of KX hcd) (hb _ _ _ _ ?_)
 refine wpAny_newFunctionEnv_cells S.kind hkind λenv he s1 x=>?_
 subst he
 refine⟨lim.keeps x.toInCall.keep,codeAny_func ?_⟩
 obtain⟨t,ht,hq⟩:=hbody A outer s H vs Q E (hr.deeper _) hsp
 have I:Inv (zgL CX P w K mg base N qual scope f cdv A outer s H E) [] (start N vs) H s1:=zjQ S hr.hd e0 hl r x
 refine wpAny_mono (ht [] s1 (start N vs) H _ I hq) (λfl s' hs=>?_) λe s' hs=>hs
 have fin:∀{σ':St} {H':Hp} {v:V} {u:Value},Inv (zgL CX P w K mg base N qual scope f cdv A outer s H E) [] σ' H' s'->RelV v u->Q v H'->CE outer P w H s Q u s':=
  λ{σ' H' v u} J rv q=>⟨v,H',J.os,J.bare,J.base,J.hok,rv,q⟩
 cases fl with
 |ret u=>
  obtain⟨v,σ',H',J,rv,q⟩:=hs
  exact fin J rv q
 |next=>
  obtain⟨σ',H',J,q⟩:=hs
  exact fin (v:=V.non) (u:=Value.none) J rfl q
 |brk=>
  obtain⟨_,_,_,q⟩:=hs
  exact False.elim q
 |cont=>
  obtain⟨_,_,_,q⟩:=hs
  exact False.elim q
section
variable{X:Cx}{x:Str}{p pos:Pos}{e:Expr}{es:List Expr}{t:TA}{id T:String}{r:List V->Hp->VK->Prop}
def tCB(r:List V->Hp->VK->Prop)(t:TA):TE:=λσ H Q=>t σ H λvs H1=>r vs H1 Q
theorem zky(hc:CallR X (.builtin id) r)(hg:Gl X x)(hm:X.mg x=none)(hv:bootBuiltins x=some (.builtin id))(ha:PA X (e::es) t)(hn:x≠"__name__":=by decide)(hdb:(x==("__debug__":Str))=false:=by decide)
 (he:starEach (e::es) X.env=(false,eval e X.env)::starEach es X.env:=by rfl) (hpl:(backTo pos (starEach es X.env)).any (·.1)=false:=by rfl):PE X (.Call (.Name x p) (e::es) [] pos) (tCB r t):=by
 intro pins s σ H Q I h
 refine wpAny_Call_Name_kw (zcx I hg hm hv ?_ hn hdb)
 exact PyProof.Rows.callWith_builtin1 (thn (ha pos pins s σ H _ I h) λus s1 ⟨vs,H1,I1,r1,q1⟩=>hc pins s1 σ H1 vs us Q I1 r1 q1) he hpl
theorem zji(hc:CallR X (.type T) r)(hg:Gl X x)(hm:X.mg x=none)(hv:bootBuiltins x=some (.type T))(ha:PA X (e::es) t)(hn:x≠"__name__":=by decide)(hdb:(x==("__debug__":Str))=false:=by decide)
 (he:starEach (e::es) X.env=(false,eval e X.env)::starEach es X.env:=by rfl) (hpl:(backTo pos (starEach es X.env)).any (·.1)=false:=by rfl):PE X (.Call (.Name x p) (e::es) [] pos) (tCB r t):=by
 intro pins s σ H Q I h
 refine wpAny_Call_Name_kw (zcx I hg hm hv ?_ hn hdb)
 exact PyProof.Rows.callWith_type1 (thn (ha pos pins s σ H _ I h) λus s1 ⟨vs,H1,I1,r1,q1⟩=>hc pins s1 σ H1 vs us Q I1 r1 q1) he hpl
end
end L2
namespace HT
open PySem PyProof.Rows
section
open PySem.SeqAt
open PySem.AutoSeq1 (wpAny_loadPart')
open PySem.MeetsSeq PySem.MeetsSeq2 PySem.MeetsSeq3
end
section
variable{prog:Program}{w:World}{A:Around}{E:Value->Shared->Prop}{s:Shared}
theorem cat_tup{t b:Addr}{vs ws:List Value}{Q:Value->Shared->Prop}(ht:IsTup s.heap t vs.toArray)(hb:IsTup s.heap b ws.toArray)(hv:vs≠ [])
 (h1:ws=[]->Q (.ref t) s) (h2:ws≠ []->Q (.ref s.heap.objs.size) {s with heap:=s.heap.push {cls:= .type "tuple",data:= .seq (vs ++ws).toArray}})
 (hsz:vs.length+ws.length<=sizeLine):wpAny (model prog w) A (binaryOp .Add (.ref t) (.ref b)) Q E s:=by
 obtain⟨⟨cls,dd,data,sl⟩,ho,hc,n,hd⟩:=id ht
 obtain⟨⟨cls2,dd2,data2,sl2⟩,ho2,hc2,n2,hd2⟩:=id hb
 simp only at hc hd hc2 hd2
 subst hc hd hc2 hd2
 have e:vs.toArray ++ws.toArray=(vs ++ws).toArray:=by simp
 by_cases hw:ws=[]
 ·exact concat_meets ⟨_,ho,rfl⟩ ⟨_,ho2,rfl⟩ noFill_tuple_add seq_tuple_add PySem.F.slot_tuple_add PySem.F.entry_tuple_add (PySem.F.args_tuple_add_2 _ _)
   (tuple_addW1 t b vs.toArray ws.toArray n n2 dd dd2 sl sl2 (by simpa using hv) (by simp[hw])) ⟨ho,ho2,h1 hw⟩
 ·refine concat_meets ⟨_,ho,rfl⟩ ⟨_,ho2,rfl⟩ noFill_tuple_add seq_tuple_add PySem.F.slot_tuple_add PySem.F.entry_tuple_add (PySem.F.args_tuple_add_2 _ _)
   (tuple_addW2 t b vs.toArray ws.toArray n n2 dd dd2 sl sl2 (by simpa using hv) (by simpa using hw) (by rw[List.size_toArray,List.size_toArray];exact hsz)) ⟨ho,ho2,?_⟩
  rw[e]
  exact h2 hw
def sIx(n d:Nat):Option Int->Nat
 |none=>d
 |some v=>if v<0 then(v+(n:Int)).toNat else min v.toNat n
theorem zoM(n d:Nat)(hd:d<=n)(o:Option Int):sIx n d o<=n:=by
 cases o with
 |none=>exact hd
 |some v=>
  show(if v<0 then(v+(n:Int)).toNat else min v.toNat n)<=n
  by_cases hv:v<0
  ·rw[if_pos hv];omega
  ·rw[if_neg hv];exact Nat.min_le_right _ _
theorem ziJ(v:Int)(n d:Nat):(if v<0 then max (v+(n:Int)) 0 else min v (n:Int))=((sIx n d (some v):Nat):Int):=by
 show(if v<0 then max (v+(n:Int)) 0 else min v (n:Int))=(((if v<0 then(v+(n:Int)).toNat else min v.toNat n):Nat):Int)
 by_cases hv:v<0
 ·simp only[if_pos hv];omega
 ·simp only[if_neg hv];omega
theorem zit(lo hi:Option Int)(n:Nat):Builtin.Slice.sliceAdjust lo hi 1 (n:Int)=(((sIx n 0 lo:Nat):Int),((sIx n n hi:Nat):Int)):=by
 have h1:¬((1:Int)<0):=by omega
 unfold Builtin.Slice.sliceAdjust
 simp only[h1,if_false]
 refine Prod.ext ?_ ?_
 ·cases lo with
  |none=>rfl
  |some v=>exact ziJ v n 0
 ·cases hi with
  |none=>rfl
  |some v=>exact ziJ v n n
theorem zir(i j:Nat):Builtin.Slice.slicePlaces (i:Int) (j:Int) 1=j -i:=by
 unfold Builtin.Slice.slicePlaces
 have h1:(1:Int)>0:=by omega
 simp only[h1,if_true,Int.ediv_one]
 split<;>omega
theorem zbR{v:Value}{o:Option Int}{Q:Option Int->Shared->Prop}(p:IsPart v o)(h:Q o s):wpAny (model prog w) A (Builtin.Slice.slicePartIndex v) Q E s:=by
 cases p with
 |none=>exact slicePart_none h
 |int i t=>exact slicePart_int h
theorem zcc{sl:Addr}{vl vu:Value}{lo hi:Option Int}{n:Nat}{Q:Int×Int×Nat->Shared->Prop}(hs:s.heap.IsSliceOf sl vl vu .none)(pl:IsPart vl lo)(pu:IsPart vu hi)
 (h:Q (((sIx n 0 lo:Nat):Int),1,sIx n n hi -sIx n 0 lo) s):wpAny (model prog w) A (Builtin.Slice.sliceApplied (.ref sl) (pure (n:Int))) Q E s:=by
 obtain⟨os,hos,hcs,hds⟩:=id hs
 unfold Builtin.Slice.sliceApplied Builtin.Slice.sliceFields
 refine wpAny_bind (wpAny_bind (wpAny_field hos hds (x:=vl) rfl (wpAny_bind (wpAny_field hos hds (x:=vu) rfl (wpAny_bind (wpAny_field hos hds (x:= .none) rfl (wpAny_pure ?_)))))))
 refine wpAny_bind (slicePart_none ?_)
 show wpAny _ _ (if((1:Int)==0)=true then _ else _) _ _ s
 rw[if_neg (by decide)]
 refine wpAny_bind (zbR pl (wpAny_bind (zbR pu (wpAny_bind (wpAny_pure ?_)))))
 show wpAny _ _ (match Builtin.Slice.sliceAdjust lo hi 1 (n:Int)with|(lo,hi)=>pure (lo,(1:Int),Builtin.Slice.slicePlaces lo hi 1)) _ _ s
 rw[zit lo hi n]
 show wpAny _ _ (pure (((sIx n 0 lo:Nat):Int),(1:Int),Builtin.Slice.slicePlaces ((sIx n 0 lo:Nat):Int) ((sIx n n hi:Nat):Int) 1)) _ _ s
 rw[zir]
 exact wpAny_pure h
theorem zlk(xs:Array Value)(i k:Nat):((List.range k).filterMap λ(m:Nat)=>xs[((i:Int)+(m:Int)*1).toNat]?).toArray=((xs.toList.drop i).take k).toArray:=by
 have e:(λ(m:Nat)=>xs[((i:Int)+(m:Int)*1).toNat]?)=λm=>xs[i+m]?:=by
  funext m
  have:((i:Int)+(m:Int)*1).toNat=i+m:=by omega
  rw[this]
 rw[e]
 have:=pick_run xs i k
 rw[List.filterMap_map] at this
 have e2:((λx=>xs[x]?)∘λx=>i+x)=λm=>xs[i+m]?:=rfl
 rw[e2] at this
 rw[this]
theorem getItem_tuple_cut{t sl:Addr}{items:Array Value}{vl vu:Value}{lo hi:Option Int}{Q:Value->Shared->Prop}(ht:IsTup s.heap t items)(hs:s.heap.IsSliceOf sl vl vu .none)(pl:IsPart vl lo)(pu:IsPart vu hi)
 (hw:¬(sIx items.size 0 lo=0/\sIx items.size items.size hi=items.size))
 (h:Q (.ref s.heap.objs.size) {s with heap:=s.heap.push {cls:= .type "tuple",data:= .seq ((items.toList.drop (sIx items.size 0 lo)).take (sIx items.size items.size hi -sIx items.size 0 lo)).toArray}})
 (hsz:items.size<=sizeLine):wpAny (model prog w) A (getItem (.ref t) (.ref sl)) Q E s:=by
 have htake:sizeOk (.seq ((items.toList.drop (sIx items.size 0 lo)).take (sIx items.size items.size hi -sIx items.size 0 lo)).toArray):=by
  show((items.toList.drop (sIx items.size 0 lo)).take (sIx items.size items.size hi -sIx items.size 0 lo)).toArray.size<=sizeLine
  rw[List.size_toArray,List.length_take,List.length_drop,Array.length_toList]
  omega
 have hj:sIx items.size items.size hi<=items.size:=zoM _ _ (Nat.le_refl _) hi
 obtain⟨os,hos,hcs,hds⟩:=id hs
 have hTs:s.TypeIs (.ref sl) "slice":=⟨os,hos,hcs⟩
 unfold getItem
 try with_reducible refine wpAny_holding ?_
 first|refine wpAny_bind (wpAny_pure ?_)|skip
 refine wpAny_bind (wpAny_sequenceKey ht.typeIs (by decide) ?_)
 refine wpAny_bind (wpAny_callSpecial?_slot (name:=Str.ofString "__getitem__") ht.typeIs PyProof.Rows.slot_tuple_getitem
  (wpAny_call_entry PyProof.Rows.slot_tuple_getitem ht.typeIs entry_tuple_getitem ?_ (args_tuple_getitem _ _)))
 show wpAny _ _ (Builtin.Tuple.tupleItemsOf (.ref t)>>=_) _ _ s
 refine wpAny_bind (tupleItemsOf_ ht ?_)
 refine wpAny_bind (wpAny_typeOf hTs ?_)
 rw[if_pos (by decide)]
 refine wpAny_bind (zcc hs pl pu ?_)
 have hno:¬((((sIx items.size 0 lo:Nat):Int)==0&&(1:Int)==1&&(sIx items.size items.size hi -sIx items.size 0 lo)==items.size)=true):=by
  intro q
  rw[Bool.and_eq_true,Bool.and_eq_true] at q
  have q1:((sIx items.size 0 lo:Nat):Int)=0:=eq_of_beq q.1.1
  have q2:sIx items.size items.size hi -sIx items.size 0 lo=items.size:=eq_of_beq q.2
  exact hw ⟨by omega,by omega⟩
 show wpAny _ _ (if(((sIx items.size 0 lo:Nat):Int)==0&&(1:Int)==1&&(sIx items.size items.size hi -sIx items.size 0 lo)==items.size)=true then _ else _) _ _ s
 rw[if_neg hno,zlk]
 first
  |exact wpAny_bind (m:=Builtin.Tuple.tupleExact _) (wpAny_newObj_type (wpAny_pure ⟨_,rfl,wpAny_pure h⟩) htake)
  |exact wpAny_bind (m:=Builtin.Tuple.tupleExact _) (wpAny_newObj_type (wpAny_bind (wpAny_pure (wpAny_pure ⟨_,rfl,wpAny_pure h⟩))) htake)
  |exact wpAny_bind (wpAny_bind (m:=Builtin.Tuple.tupleExact _) (wpAny_newObj_type (wpAny_pure (wpAny_pure ⟨_,rfl,wpAny_pure h⟩)) htake))
  |exact wpAny_bind (wpAny_bind (m:=Builtin.Tuple.tupleExact _) (wpAny_newObj_type (wpAny_pure ⟨_,rfl,wpAny_pure h⟩) htake))
end
end HT
namespace L2
open PySem PySem.Spec PyProof.Rows
abbrev TO:=St->Hp->(Option Int->Hp->Prop)->Prop
def PO(X:Cx)(e:Option Expr)(t:TO):Prop:=
 ∀(pins:List (Addr×Obj)) (s:Shared) (σ:St) (H:Hp) (Q:Option Int->Hp->Prop),Inv X pins σ H s->t σ H Q->
  wpAny (model X.prog X.w) X.A (evalPart e X.env) (λu s'=>∃o H',Inv X pins σ H' s'/\IsPart u o/\Q o H') X.xe s
def zen:TO:=λ_ H Q=>Q none H
def znR(t:TE):TO:=λσ H Q=>t σ H λx H1=>∃i,x= .int i/\Q (some i) H1
section
variable{X:Cx}{e:Expr}{te:TE}{lo hi:Option Expr}{tl th:TO}{pos p2:Pos}
theorem zmX:PO X none zen:=by
 intro pins s σ H Q I h
 rw[evalPart_none]
 exact wpAny_pure ⟨none,H,I, .none,h⟩
theorem zl4(h:PE X e te):PO X (some e) (znR te):=by
 intro pins s σ H Q I hw
 rw[evalPart_some]
 refine thn (h pins s σ H _ I hw) λu s1 ⟨x,H1,I1,r1,q1⟩=>?_
 obtain⟨i,rfl,q⟩:=q1
 obtain⟨t,rfl⟩:=r1
 exact⟨some i,H1,I1, .int i t,q⟩
def SlR(X:Cx)(r:V->Option Int->Option Int->Hp->VK->Prop):Prop:=
 ∀(pins:List (Addr×Obj)) (s:Shared) (σ:St) (H:Hp) (x:V) (v vl vu:Value) (lo hi:Option Int) (sl:Addr) (Q:VK),Inv X pins σ H s->RelV x v->s.heap.IsSliceOf sl vl vu .none->IsPart vl lo->IsPart vu hi->r x lo hi H Q->
  ∃T id,typeLookup (.type T) "__getitem__"=pure (some (.builtin id))/\s.TypeIs v T/\wpAny (model X.prog X.w) X.A (getItem v (.ref sl)) (EP X pins σ Q) X.xe s
def tSl(r:V->Option Int->Option Int->Hp->VK->Prop)(te:TE)(tl th:TO):TE:=λσ H Q=>te σ H λx H1=>tl σ H1 λl H2=>th σ H2 λu H3=>r x l u H3 Q
theorem zk5{r:V->Option Int->Option Int->Hp->VK->Prop}(hr:SlR X r)(he:PE X e te)(hl:PO X lo tl)(hu:PO X hi th):PE X (.Subscript e (.Slice lo hi none p2) pos) (tSl r te tl th):=by
 intro pins s σ H Q I h
 refine Subscript_ (thn (he pins s σ H _ I h) λv s1 ⟨x,H1,I1,r1,q1⟩=>?_)
 refine wpAny_Slice (thn (hl pins s1 σ H1 _ I1 q1) λvl s2 ⟨l,H2,I2,pl,q2⟩=>thn (hu pins s2 σ H2 _ I2 q2) λvu s3 ⟨u,H3,I3,pu,q3⟩=>?_)
 rw[evalPart_none]
 refine wpAny_pure ?_
 have I4:Inv X pins σ H3 {s3 with heap:=s3.heap.push {cls:= .type "slice",data:= .fields #[vl,vu, .none]}}:=I3.kept (t':=s3.toks) λb ob q=>Heap.get?_push_of_some _ q
 obtain⟨T,id,hT,ht,hg⟩:=hr pins {s3 with heap:=s3.heap.push {cls:= .type "slice",data:= .fields #[vl,vu, .none]}} σ H3 x v vl vu l u s3.heap.objs.size Q I4 r1 (Heap.IsSliceOf.new ..) pl pu q3
 show wpAny (model X.prog X.w) X.A (subscriptTail e (.Slice lo hi none p2) v (.ref s3.heap.objs.size)) (EP X pins σ Q) X.xe {s3 with heap:=s3.heap.push {cls:= .type "slice",data:= .fields #[vl,vu, .none]}}
 exact tail_any (ops:=[.ref s3.heap.objs.size,v]) ht hT hg (by with_unfolding_all rfl)
def zaY(xs:List V)(lo hi:Option Int):List V:=(xs.drop (HT.sIx xs.length 0 lo)).take (HT.sIx xs.length xs.length hi -HT.sIx xs.length 0 lo)
theorem zd5(xs:List V)(lo hi:Option Int):(zaY xs lo hi).length<=xs.length:=by
 unfold zaY
 rw[List.length_take,List.length_drop]
 omega
def zp7(K:PySem.W.Frag):V->Option Int->Option Int->Hp->VK->Prop:=λx lo hi H Q=>∃a xs,x= .ref a/\SqT K H a xs/\
 ¬(HT.sIx xs.length 0 lo=0/\HT.sIx xs.length xs.length hi=xs.length)/\∀p,H p=none->Q (.ref p) (upd H p (.tup (zaY xs lo hi)))
theorem zoh:SlR X (zp7 X.K):=by
 intro pins s σ H x v vl vu lo hi sl Q I rx hs pl pu h
 obtain⟨a,xs,rfl,hx,hw,q⟩:=h
 cases rx
 obtain⟨its,r,ht,hz⟩:=I.tuple hx
 have hlen:its.toArray.size=xs.length:=by rw[List.size_toArray];exact r.length.symm
 refine⟨"tuple",_,PyProof.Rows.slot_tuple_getitem.lookup,ht.typeIs,?_⟩
 refine HT.getItem_tuple_cut ht hs pl pu (by rw[hlen];exact hw) ?_ (by rw[hlen];exact hz)
 rw[hlen]
 refine⟨.ref s.heap.objs.size,_,I.laid (t':=s.toks) (o:= .tup (zaY xs lo hi)) (λb ob q=>Heap.get?_push_of_some _ q) (Nat.le_refl _) ?_,rfl,q _ (I.hok.fresh (Nat.le_refl _))⟩
 exact⟨Nat.le_trans (zd5 xs lo hi) hz,_,(r.drop (HT.sIx xs.length 0 lo)).take (HT.sIx xs.length xs.length hi -HT.sIx xs.length 0 lo),IsTup.new _ _,NoDict.new rfl (Heap.get?_push_size _ rfl)⟩
def zpN(K:PySem.W.Frag):R2:=λx y H Q=>∃a b xs ys,x= .ref a/\y= .ref b/\SqT K H a xs/\SqT K H b ys/\xs≠ []/\xs.length+ys.length<=sizeLine/\
 (ys=[]->Q (.ref a) H)/\(ys≠ []->∀p,H p=none->Q (.ref p) (upd H p (.tup (xs ++ys))))
theorem Vals.nil_iff{xs:List V}{us:List Value}(r:Vals xs us):us=[]↔xs=[]:=by
 cases r with
 |nil=>simp
 |cons _ _=>simp
theorem zlZ:OpR X (binaryOp .Add) (zpN X.K):=by
 intro pins s σ H x y v u Q I rx ry h
 obtain⟨a,b,xs,ys,rfl,rfl,ha,hb,hx,hz,q1,q2⟩:=h
 cases rx
 cases ry
 obtain⟨its,r1,p1,_⟩:=I.tuple ha
 obtain⟨its2,r2,p2,_⟩:=I.tuple hb
 refine HT.cat_tup p1 p2 (λz=>hx (r1.nil_iff.mp z)) (λz=>⟨.ref a,H,I,rfl,q1 (r2.nil_iff.mp z)⟩) (λz=>?_) (by rw[←r1.length,←r2.length];exact hz)
 refine⟨.ref s.heap.objs.size,_,I.laid (t':=s.toks) (o:= .tup (xs ++ys)) (λb ob q=>Heap.get?_push_of_some _ q) (Nat.le_refl _) ?_,rfl,q2 (λw=>z (r2.nil_iff.mpr w)) _ (I.hok.fresh (Nat.le_refl _))⟩
 exact⟨by rw[List.length_append];exact hz,_,r1.append r2,IsTup.new _ _,NoDict.new rfl (Heap.get?_push_size _ rfl)⟩
end
def ixN(n:Nat)(i:Int):Option Nat:=if 0<=i then(if i<n then some i.toNat else none)else if -(n:Int)<=i then some (i+n).toNat else none
def atI{α:Type}(xs:List α)(i:Int):Option α:=(ixN xs.length i).bind λj=>xs[j]?
theorem ziU{n:Nat}{i:Int}{j:Nat}(h:ixN n i=some j):seqIndex? i n=some j/\j<n/\-(n:Int)<=i/\i<n:=by
 unfold ixN at h
 by_cases h0:0<=i
 ·rw[if_pos h0] at h
  by_cases h1:i<n
  ·rw[if_pos h1] at h
   have e:i.toNat=j:=Option.some.inj h
   exact⟨by rw[seqIndex_of h0 h1,e],by omega,by omega,h1⟩
  ·rw[if_neg h1] at h;cases h
 ·rw[if_neg h0] at h
  by_cases h1: -(n:Int)<=i
  ·rw[if_pos h1] at h
   have e:(i+n).toNat=j:=Option.some.inj h
   exact⟨by rw[seqIndex_neg (by omega) h1,e],by omega,h1,by omega⟩
  ·rw[if_neg h1] at h;cases h
theorem zfN{α:Type}{xs:List α}{i:Int}{v:α}(h:atI xs i=some v):∃j,seqIndex? i xs.length=some j/\xs[j]?=some v/\j<xs.length/\-(xs.length:Int)<=i/\i<xs.length:=by
 unfold atI at h
 cases e:ixN xs.length i with
 |none=>rw[e] at h;cases h
 |some j=>
  rw[e] at h
  obtain⟨h1,h2,h3,h4⟩:=ziU e
  exact⟨j,h1,h,h2,h3,h4⟩
theorem zU{α:Type}{xs:List α}{j:Nat}{v:α}(h:xs[j]?=some v):atI xs (j:Int)=some v:=by
 have hj:j<xs.length:=(List.getElem?_eq_some_iff.mp h).1
 have e:ixN xs.length (j:Int)=some j:=by
  unfold ixN
  rw[if_pos (by omega),if_pos (by omega)];simp
 unfold atI;rw[e];exact h
def ziO(b:Expr):Prop:=∀o i,subscripted b false o i=operate [o,i] (getItem o i)
def IxR(X:Cx)(r:R2):Prop:=
 ∀(value slice:Expr) (pins:List (Addr×Obj)) (s:Shared) (σ:St) (H:Hp) (x y:V) (v u:Value) (Q:VK),Inv X pins σ H s->RelV x v->RelV y u->r x y H Q->
  subscripted slice false v u=operate [v,u] (getItem v u)->wpAny (model X.prog X.w) X.A (subscriptTail value slice v u) (EP X pins σ Q) X.xe s
def MtR(X:Cx)(id:String)(r:V->List V->Hp->VK->Prop):Prop:=
 ∀(pins:List (Addr×Obj)) (s:Shared) (σ:St) (H:Hp) (x:V) (xs:List V) (v:Value) (us:List Value) (Q:VK),Inv X pins σ H s->RelV x v->Vals xs us->r x xs H Q->
  wpAny (model X.prog X.w) X.A (call (.builtin id) (v::us)) (EP X pins σ Q) X.xe s
section
variable{X:Cx}{a b:Expr}{ta tb:TE}{pos:Pos}
theorem IxR.or{r r':R2}(h:IxR X r)(h':IxR X r'):IxR X (λx y H Q=>r x y H Q\/r' x y H Q):=by
 intro value slice pins s σ H x y v u Q I rx ry q hs
 rcases q with q|q
 ·exact h value slice pins s σ H x y v u Q I rx ry q hs
 ·exact h' value slice pins s σ H x y v u Q I rx ry q hs
theorem zpO{r:R2}(hr:IxR X r)(ha:PE X a ta)(hb:PE X b tb)(hs:ziO b):PE X (.Subscript a b pos) (tOp r ta tb):=by
 intro pins s σ H Q I h
 exact Subscript_ (zoZ ha hb I h λv u s2 x y H2 I2 rx ry q=>hr a b pins s2 σ H2 x y v u Q I2 rx ry q (hs _ _))
def zpi(K:PySem.W.Frag):R2:=λx y H Q=>∃p xs i v,x= .ref p/\y= .int i/\SqL K H p xs/\atI xs i=some v/\Q v H
def zod(K:PySem.W.Frag):R2:=λx y H Q=>∃p xs i v,x= .ref p/\y= .int i/\SqT K H p xs/\atI xs i=some v/\Q v H
def zpP:R2:=λx y H Q=>∃z i c,x= .str z/\y= .int i/\z.length<=sizeLine/\atI z.cps.toList i=some c/\Q (.str ⟨#[c]⟩) H
theorem ix_list:IxR X (zpi X.K):=by
 intro value slice pins s σ H x y v u Q I rx ry h hs
 obtain⟨p,xs,i,z,rfl,rfl,hq,he,q⟩:=h
 cases rx
 obtain⟨t,rfl⟩:=ry
 obtain⟨its,r,pl,hz⟩:=I.list hq
 obtain⟨j,h1,h2,h3,h4,h5⟩:=zfN he
 obtain⟨w,ew,rw'⟩:=r.get h2
 have hl:=r.length
 have hn:=zdl
 have fin:EP X pins σ Q w s:=⟨z,H,I,rw',q⟩
 by_cases h0:0<=i
 ·have hj:i.toNat=j:=by
   rw[seqIndex_of h0 h5] at h1
   exact Option.some.inj h1
  exact item_listR pl.isList h0 (by omega) (by rw[hj];simpa using ew) fin hs
 ·have hj:(i+(its.toArray.size:Int)).toNat=j:=by
   rw[seqIndex_neg (by omega) h4] at h1
   rw[List.size_toArray,←hl]
   exact Option.some.inj h1
  exact subscriptTail_builtinR (x:=w) pl.isList.typeIs slot_list_getitem.lookup
   (wpAny_getItem_list_neg (Q:=λr s'=>r=w/\EP X pins σ Q r s') pl.isList (by omega) (by rw[List.size_toArray]<;>omega) (by omega) (by rw[hj];simpa using ew) ⟨rfl,fin⟩) hs
theorem ix_tup:IxR X (zod X.K):=by
 intro value slice pins s σ H x y v u Q I rx ry h hs
 obtain⟨p,xs,i,z,rfl,rfl,hq,he,q⟩:=h
 cases rx
 obtain⟨t,rfl⟩:=ry
 obtain⟨its,r,pl,hz⟩:=I.tuple hq
 obtain⟨j,h1,h2,h3,h4,h5⟩:=zfN he
 obtain⟨w,ew,rw'⟩:=r.get h2
 have hl:=r.length
 have hn:=zdl
 have fin:EP X pins σ Q w s:=⟨z,H,I,rw',q⟩
 exact subscriptTail_builtinR (x:=w) pl.typeIs slot_tuple_getitem.lookup
  (getItem_tuple (j:=j) (Q:=λr s'=>r=w/\EP X pins σ Q r s') pl (by omega) (by omega) (by rw[List.size_toArray,←hl];exact h1) (by simpa using ew) ⟨rfl,fin⟩) hs
theorem zkM:IxR X zpP:=by
 intro value slice pins s σ H x y v u Q I rx ry h hs
 obtain⟨z,i,c,rfl,rfl,hz,he,q⟩:=h
 obtain⟨t,rfl⟩:=rx
 obtain⟨t',rfl⟩:=ry
 obtain⟨j,h1,h2,h3,h4,h5⟩:=zfN he
 have hl:z.cps.toList.length=z.length:=by simp[Str.length]
 rw[hl] at h1 h4 h5
 have hn:=zdl
 exact tail_any (typeIs_str s z t) slot_str_getitem.lookup (getItem_str (c:=c) (by
  have e1:decide (i< -(2^63:Int))=false:=decide_eq_false (by omega)
  have e2:decide (i≥2^63)=false:=decide_eq_false (by omega)
  rw[e1,e2,Bool.or_false]) (by rw[h1];simpa using h2) ⟨.str ⟨#[c]⟩,H,I.tok _,⟨_,rfl⟩,q⟩) hs
def rIx(K:PySem.W.Frag):R2:=λx y H Q=>zpi K x y H Q\/zod K x y H Q\/zpP x y H Q
theorem zkZ:IxR X (rIx X.K):=ix_list.or (ix_tup.or zkM)
theorem zh4(its:List Value)(n j:Nat)(u:Value):Obj.mapSeq (·.setIfInBounds j u) {cls:= .type "list",data:= .seq its.toArray n}={cls:= .type "list",data:= .seq (its.set j u).toArray n}:=by
 simp[Obj.mapSeq]
theorem Inv.lst{pins:List (Addr×Obj)}{σ:St}{H:Hp}{s:Shared}{p:Addr}{xs:List V}(I:Inv X pins σ H s)(h:H p=some (.lst xs)):
 ∃(its:List Value) (n:Nat),Vals xs its/\s.heap.get? p=some {cls:= .type "list",data:= .seq its.toArray n}/\xs.length<=sizeLine:=by
 obtain⟨z,its,n,r,e⟩:=I.hok p _ h
 exact⟨its,n,r,e,z⟩
theorem Inv.lstUpd{pins:List (Addr×Obj)}{σ:St}{H:Hp}{s:Shared}{p:Addr}{xs ys:List V}{its its':List Value}{n n':Nat}{f:Obj->Obj}(I:Inv X pins σ H s)(h:H p=some (.lst xs))
 (ho:s.heap.get? p=some {cls:= .type "list",data:= .seq its.toArray n}) (hf:f {cls:= .type "list",data:= .seq its.toArray n}={cls:= .type "list",data:= .seq its'.toArray n'}) (r:Vals ys its') (hz:ys.length<=sizeLine) (t:Nat):
 Inv X pins σ (upd H p (.lst ys)) {s with heap:=s.heap.update p f,toks:=t}:=by
 have e:(s.heap.update p f).get? p=some {cls:= .type "list",data:= .seq its'.toArray n'}:=by
  rw[Heap.get?_update_self f ho (by rw[hf]<;>rfl),hf]
 refine I.write (x:=p) (e:=p) (by rw[h];trivial) (.inl rfl) (λb u hb q=>(Heap.get?_update_other _ _ (Ne.symm hb)).trans q) ⟨_,e⟩ ?_
 exact⟨hz,its',n',r,e⟩
def zpF:V->V->V->Hp->(Hp->Prop)->Prop:=λo i v H Q=>∃p xs k j,o= .ref p/\i= .int k/\H p=some (.lst xs)/\ixN xs.length k=some j/\Q (upd H p (.lst (xs.set j v)))
theorem zdA:zoe X zpF:=by
 intro pins s σ H o i v ov iv u Q I ro ri rv h
 obtain⟨p,xs,k,j,rfl,rfl,hp,hj,q⟩:=h
 cases ro
 obtain⟨t,rfl⟩:=ri
 obtain⟨its,n,r,ho,hz⟩:=I.lst hp
 obtain⟨h1,h2,h3,h4⟩:=ziU hj
 have hl:=r.length
 have hn:=zdl
 have I':Inv X pins σ (upd H p (.lst (xs.set j v))) {s with heap:=s.heap.update p (Obj.mapSeq (·.setIfInBounds j u))}:=
  I.lstUpd hp ho (zh4 its n j u) (r.set rv j) (by rw[List.length_set];exact hz) s.toks
 by_cases h0:0<=k
 ·have hk:k.toNat=j:=by
   rw[seqIndex_of h0 h4] at h1
   exact Option.some.inj h1
  exact PySem.W.ki_setAt ho h0 (by omega) (by rw[List.size_toArray,←hl];exact h4) (by rw[hk];exact⟨_,I',q⟩)
 ·have hk:(k+(its.toArray.size:Int)).toNat=j:=by
   rw[seqIndex_neg (by omega) h3] at h1
   rw[List.size_toArray,←hl]
   exact Option.some.inj h1
  exact PySem.W.ki_setBack ho (by omega) (by rw[List.size_toArray,←hl];exact h3) (by omega) (by rw[hk];exact⟨_,I',q⟩)
theorem zf3(lo hi:Option Int)(n:Nat):(sliceBounds lo hi none n).1=((HT.sIx n 0 lo:Nat):Int)/\(sliceBounds lo hi none n).2.1=((HT.sIx n n hi:Nat):Int)/\(sliceBounds lo hi none n).2.2=1:=by
 refine⟨?_,?_,rfl⟩
 ·cases lo with
  |none=>simp[sliceBounds,HT.sIx]
  |some i=>
   simp only[sliceBounds,HT.sIx,Option.getD_none,show(1:Int)>0 by decide,if_true]
   by_cases h:i<0
   ·simp only[h,if_true]<;>omega
   ·simp only[h,if_false]<;>omega
 ·cases hi with
  |none=>simp[sliceBounds,HT.sIx]
  |some i=>
   simp only[sliceBounds,HT.sIx,Option.getD_none,show(1:Int)>0 by decide,if_true]
   by_cases h:i<0
   ·simp only[h,if_true]<;>omega
   ·simp only[h,if_false]<;>omega
theorem ze9(its:List Value)(lo hi:Option Int):slicePick its.toArray lo hi none=((its.drop (HT.sIx its.length 0 lo)).take (HT.sIx its.length its.length hi -HT.sIx its.length 0 lo)).toArray:=by
 obtain⟨h1,h2,h3⟩:=zf3 lo hi its.toArray.size
 unfold slicePick
 rw[h1,h2,h3]
 simp only[sliceRange_one,pick_run,List.size_toArray]<;>rfl
def zp9(K:PySem.W.Frag):V->Option Int->Option Int->Hp->VK->Prop:=λx lo hi H Q=>∃a xs,x= .ref a/\SqL K H a xs/\∀p,H p=none->Q (.ref p) (upd H p (.lst (zaY xs lo hi)))
theorem zgx:SlR X (zp9 X.K):=by
 intro pins s σ H x v vl vu lo hi sl Q I rx hs pl pu h
 obtain⟨a,xs,rfl,hx,q⟩:=h
 cases rx
 obtain⟨its,r,ht,hz⟩:=I.list hx
 have hlen:=r.length
 refine⟨"list",_,slot_list_getitem.lookup,ht.isList.typeIs,?_⟩
 refine wpAny_getItem_list_slice ht.isList hs pl pu .none (by simp) ?_ (by rw[List.size_toArray]<;>omega)
 rw[ze9,←hlen]
 refine⟨.ref s.heap.objs.size,_,I.laid (t':=s.toks) (o:= .lst (zaY xs lo hi)) (λb ob q=>Heap.get?_push_of_some _ q) (Nat.le_refl _) ?_,rfl,q _ (I.hok.fresh (Nat.le_refl _))⟩
 exact⟨Nat.le_trans (zd5 xs lo hi) hz,_,0,(r.drop (HT.sIx xs.length 0 lo)).take (HT.sIx xs.length xs.length hi -HT.sIx xs.length 0 lo),Heap.get?_push_size _ rfl⟩
def zdG:V->Bool
 | .non=>true
 | .bl _=>true
 | .int _=>true
 | .str _=>true
 |_=>false
def eqV:V->V->Bool
 | .non, .non=>true
 | .bl a, .bl b=>a==b
 | .bl a, .int b=>(if a then 1 else 0)==b
 | .int a, .bl b=>a==(if b then 1 else 0)
 | .int a, .int b=>a==b
 | .str a, .str b=>a==b
 |_,_=>false
theorem zo4{A:Around}{s:Shared}{y x:V}{u v:Value}(ry:RelV y u)(rx:RelV x v)(fy:zdG y=true)(fx:zdG x=true):SeqAt.EqAt A s u v (eqV y x):=by
 cases y with
 |non=>
  cases ry
  cases x with
  |non=>cases rx;exact SeqAt.EqAt.same _
  |bl b=>cases rx;exact SeqAt.EqAt.none_bool b
  |int b=>obtain ⟨t,rfl⟩:=rx;exact SeqAt.EqAt.none_int b t
  |str b=>obtain ⟨t,rfl⟩:=rx;exact SeqAt.EqAt.none_str b t
  |_=>exact absurd (show false=true from fx) Bool.false_ne_true
 |bl a=>
  cases ry
  cases x with
  |non=>cases rx;exact SeqAt.EqAt.bool_none a
  |bl b=>cases rx;exact SeqAt.EqAt.bool_bool a b
  |int b=>obtain ⟨t,rfl⟩:=rx;exact SeqAt.EqAt.bool_int a b t
  |str b=>obtain ⟨t,rfl⟩:=rx;exact SeqAt.EqAt.bool_str a b t
  |_=>exact absurd (show false=true from fx) Bool.false_ne_true
 |int a=>
  obtain⟨t',rfl⟩:=ry
  cases x with
  |non=>cases rx;exact SeqAt.EqAt.int_none a t'
  |bl b=>cases rx;exact SeqAt.EqAt.int_bool a t' b
  |int b=>obtain ⟨t,rfl⟩:=rx;exact SeqAt.EqAt.int_int a t' b t
  |str b=>obtain ⟨t,rfl⟩:=rx;exact SeqAt.EqAt.int_str a t' b t
  |_=>exact absurd (show false=true from fx) Bool.false_ne_true
 |str a=>
  obtain⟨t',rfl⟩:=ry
  cases x with
  |non=>cases rx;exact SeqAt.EqAt.str_none a t'
  |bl b=>cases rx;exact SeqAt.EqAt.str_bool a t' b
  |int b=>obtain ⟨t,rfl⟩:=rx;exact SeqAt.EqAt.str_int a t' b t
  |str b=>obtain ⟨t,rfl⟩:=rx;exact SeqAt.EqAt.str_str a t' b t
  |_=>exact absurd (show false=true from fx) Bool.false_ne_true
 |_=>exact absurd (show false=true from fy) Bool.false_ne_true
def eqU(x:V)(u:Value):Bool:=match u with
 | .none=>eqV .non x
 | .bool b=>eqV (.bl b) x
 | .int i _=>eqV (.int i) x
 | .str z _=>eqV (.str z) x
 |_=>false
theorem zkn{x y:V}{u:Value}(r:RelV y u)(f:zdG y=true):eqU x u=eqV y x:=by
 cases y with
 |non=>cases r;rfl
 |bl b=>cases r;rfl
 |int i=>obtain ⟨t,rfl⟩:=r;rfl
 |str z=>obtain ⟨t,rfl⟩:=r;rfl
 |_=>exact absurd (show false=true from f) Bool.false_ne_true
theorem zf4{x:V}:∀{xs:List V} {us:List Value},Vals xs us->xs.all zdG=true->us.any (eqU x)=xs.any λy=>eqV y x
 |_,_, .nil,_=>rfl
 |y::xs,u::us, .cons r t,f=>by
  rw[List.all_cons,Bool.and_eq_true] at f
  rw[List.any_cons,List.any_cons,zkn r f.1,zf4 t f.2]
theorem zeT{A:Around}{s:Shared}{x:V}{v:Value}(rx:RelV x v)(fx:zdG x=true):∀{xs:List V} {us:List Value},Vals xs us->xs.all zdG=true->∀u∈us,SeqAt.EqAt A s u v (eqU x u)
 |_,_, .nil,_=>λu hu=>by cases hu
 |y::xs,u::us, .cons r t,f=>λu' hu=>by
  rw[List.all_cons,Bool.and_eq_true] at f
  rcases List.mem_cons.mp hu with rfl|hu
  ·rw[zkn r f.1];exact zo4 r rx f.1 fx
  ·exact zeT rx fx t f.2 u' hu
def inV(x:V)(xs:List V):Bool:=xs.any λy=>eqV y x
def rIn(K:PySem.W.Frag)(neg:Bool):R2:=λx y H Q=>∃p xs,y= .ref p/\(SqL K H p xs\/SqT K H p xs)/\zdG x=true/\xs.all zdG=true/\Q (.bl (if neg then !inV x xs else inV x xs)) H
theorem zdV:OpR X (compareOp .In) (rIn X.K false):=by
 intro pins s σ H x y v u Q I rx ry h
 obtain⟨p,xs,rfl,hq,fx,fs,q⟩:=h
 cases ry
 rcases hq with hq|hq
 ·obtain ⟨its,r,pl,hz⟩:=I.list hq
  refine SeqAt.in_listAt (eqU x) pl.isList (λw hw=>zeT rx fx r fs w (by simpa using hw)) ⟨.bl _,H,I,rfl,?_⟩
  rw[show its.toArray.any (eqU x)=its.any (eqU x) by simp,zf4 r fs]
  exact q
 ·obtain ⟨its,r,pl,hz⟩:=I.tuple hq
  refine SeqAt.in_tupleAt (eqU x) pl (λw hw=>zeT rx fx r fs w (by simpa using hw)) ⟨.bl _,H,I,rfl,?_⟩
  rw[show its.toArray.any (eqU x)=its.any (eqU x) by simp,zf4 r fs]
  exact q
theorem call_len_seq:CallR X (.builtin "len") (λxs H Q=>∃p ys,xs=[.ref p]/\(SqL X.K H p ys\/SqT X.K H p ys)/\Q (.int ys.length) H):=by
 intro pins s σ H xs us Q I r h
 obtain⟨p,ys,rfl,hq,q⟩:=h
 obtain⟨u,rfl,rx⟩:=zb6 r
 cases rx
 have hn:=zdl
 rcases hq with hq|hq
 ·obtain ⟨its,r',pl,hz⟩:=I.list hq
  have hlen:=r'.length
  exact Calls.call_len_list pl.isList (by simp only[List.size_toArray]<;>omega) ⟨.int ys.length,H,I.tok _,⟨s.toks+1,by rw[List.size_toArray,hlen]⟩,q⟩
 ·obtain ⟨its,r',pl,hz⟩:=I.tuple hq
  have hlen:=r'.length
  exact len_tuple pl (by simp only[List.size_toArray]<;>omega) ⟨.int ys.length,H,I.tok _,⟨s.toks+1,by rw[List.size_toArray,hlen]⟩,q⟩
theorem zgz:CallR X (.builtin "len") (λxs H Q=>∃z,xs=[.str z]/\z.length<=sizeLine/\Q (.int z.length) H):=by
 intro pins s σ H xs us Q I r h
 obtain⟨z,rfl,hz,q⟩:=h
 obtain⟨u,rfl,t,rfl⟩:=zb6 r
 have hn:=zdl
 exact len_str (by omega) ⟨.int z.length,H,I.tok _,⟨_,rfl⟩,q⟩
theorem CallR.or{f:Value}{r r':List V->Hp->VK->Prop}(h:CallR X f r)(h':CallR X f r'):CallR X f (λxs H Q=>r xs H Q\/r' xs H Q):=by
 intro pins s σ H xs us Q I rs q
 rcases q with q|q
 ·exact h pins s σ H xs us Q I rs q
 ·exact h' pins s σ H xs us Q I rs q
theorem zG:CallR X (.type "tuple") (λxs H Q=>∃p ys,xs=[.ref p]/\((SqL X.K H p ys/\∀l,H l=none->Q (.ref l) (upd H l (.tup ys)))\/(SqT X.K H p ys/\Q (.ref p) H))):=by
 intro pins s σ H xs us Q I r h
 obtain⟨p,ys,rfl,h⟩:=h
 obtain⟨u,rfl,rx⟩:=zb6 r
 cases rx
 rcases h with⟨hq,q⟩|⟨hq,q⟩
 ·obtain ⟨its,r',pl,hz⟩:=I.list hq
  have hlen:=r'.length
  refine call_tuple_list pl.isList (λh' kp=>?_) (by simp only[List.size_toArray]<;>omega)
  have I1:Inv X pins σ H {s with heap:=h'}:=I.kept (t':=s.toks) kp
  have I2:Inv X pins σ (upd H h'.objs.size (.tup ys)) {s with heap:=h'.push {cls:= .type "tuple",data:= .seq its.toArray}}:=
   I1.laid (t':=s.toks) (λb o e=>Heap.get?_push_of_some _ e) (Nat.le_refl _) (show ObjOk X.prog X.w _ _ _ (.tup ys)from⟨hz,its,r',IsTup.new _ _,NoDict.new rfl (Heap.get?_push_size _ rfl)⟩)
  exact⟨.ref h'.objs.size,_,I2,rfl,q _ (I1.hok.fresh (Nat.le_refl _))⟩
 ·obtain ⟨its,r',pl,hz⟩:=I.tuple hq
  exact call_tuple_same pl ⟨.ref p,H,I,rfl,q⟩
def tyV(K:PySem.W.Frag)(T:String)(x:V)(H:Hp):Prop:=match x with
 | .str _=>T="str"
 | .int _=>T="int"
 | .ref p=>(T="list"/\∃xs,SqL K H p xs)\/(T="tuple"/\∃o,K.lookup p=some o/\o.cls= .type "tuple"/\o.dict=none)\/
    (T="dict"/\((∃kvs,H p=some (.dK kvs))\/∃kvs,H p=some (.dT kvs)))\/(T="set"/\∃S n,H p=some (.set S n))\/(T="tuple"/\∃xs,H p=some (.tup xs))
 |_=>False
theorem zk0{pins:List (Addr×Obj)}{σ:St}{H:Hp}{s:Shared}{T:String}{x:V}{v:Value}(I:Inv X pins σ H s)(r:RelV x v)(ty:tyV X.K T x H):
 s.TypeIs v T/\∀a,v= .ref a->∃ob,s.heap.get? a=some ob/\ob.dict=none:=by
 cases x with
 |str z=>
  obtain⟨t,rfl⟩:=r
  cases(show T="str"from ty)
  exact⟨typeIs_str s z t,λ_ e=>nomatch e⟩
 |int i=>
  obtain⟨t,rfl⟩:=r
  cases(show T="int"from ty)
  exact⟨typeIs_int s i t,λ_ e=>nomatch e⟩
 |ref p=>
  cases r
  rcases ty with⟨rfl,xs,hq⟩|⟨rfl,o,hk,hc,hd⟩|⟨rfl,hk⟩|⟨rfl,S,n,hk⟩|⟨rfl,xs,hk⟩
  ·obtain ⟨its,_,pl,_⟩:=I.list hq
   refine⟨pl.isList.typeIs,λa e=>?_⟩
   cases e
   obtain⟨o,n,e,c,hd,_⟩:=pl
   exact⟨o,e,hd⟩
  ·refine ⟨⟨o,I.kIn p o hk,hc⟩,λa e=>?_⟩
   cases e
   exact⟨o,I.kIn _ o hk,hd⟩
  ·have z:∃o,s.heap.get? p=some o/\o.ExactDict:=by
    rcases hk with⟨kvs,hk⟩|⟨kvs,hk⟩
    ·obtain ⟨_,_,_,_,o,_,_,e,ex,_⟩:=I.hok p _ hk
     exact⟨o,e,ex⟩
    ·obtain ⟨_,_,_,_,o,_,_,e,ex,_⟩:=I.hok p _ hk
     exact⟨o,e,ex⟩
   obtain⟨o,e,ex⟩:=z
   refine⟨⟨o,e,ex.1⟩,λa e2=>?_⟩
   cases e2
   exact⟨o,e,ex.2.1⟩
  ·obtain ⟨o,_,_,_,e,ex,_⟩:=I.hok p _ hk
   refine⟨⟨o,e,ex.1⟩,λa e2=>?_⟩
   cases e2
   exact⟨o,e,ex.2.1⟩
  ·obtain ⟨_,_,_,⟨o,e,c,_⟩,nd⟩:=I.hok p _ hk
   refine⟨⟨o,e,c⟩,λa e2=>?_⟩
   cases e2
   exact⟨o,e,nd o e⟩
 |_=>exact False.elim ty
def zpL(K:PySem.W.Frag)(T:String)(r:V->List V->Hp->VK->Prop)(to:TE):TE:=λσ H Q=>to σ H λx H1=>tyV K T x H1/\r x [] H1 Q
def tBM(K:PySem.W.Frag)(T:String)(r:V->List V->Hp->VK->Prop)(to:TE)(t:TA):TE:=λσ H Q=>to σ H λx H1=>tyV K T x H1/\t σ H1 λxs H2=>r x xs H2 Q
variable{o e:Expr}{es:List Expr}{to:TE}{t:TA}{name:Str}{apos cpos:Pos}{T id:String}{r:V->List V->Hp->VK->Prop}
theorem zoA(pa:PlainAttrs T)(slot:Slot T name id)(hty:typeOf (.builtin id)=pure (.type "method_descriptor"))(hm:MtR X id r)(ho:PE X o to)
 (hbase:attributeBase o name X.env (eval o X.env)=eval o X.env:=by rfl) (hline:(apos.endLine==cpos.line)=true:=by rfl):PE X (.Call (.Attribute o name apos) [] [] cpos) (zpL X.K T r to):=by
 intro pins s σ H Q I h
 refine wpAny_Call_method0_late hbase hline (thn (ho pins s σ H _ I h) λv s1 ⟨x,H1,I1,r1,ty,q1⟩=>?_)
 obtain⟨h1,h2⟩:=zk0 I1 r1 ty
 exact⟨T,id,pa,slot,hty,h1,h2,Calls.callWith_builtin rfl (PySem.evalArgs_none (hm pins s1 σ H1 x [] v [] Q I1 r1 .nil q1))⟩
theorem zpu(pa:PlainAttrs T)(slot:Slot T name id)(hty:typeOf (.builtin id)=pure (.type "method_descriptor"))(hm:MtR X id r)(ho:PE X o to)(ha:PA X (e::es) t)
 (hbase:attributeBase o name X.env (eval o X.env)=eval o X.env:=by rfl)
 (hfew:((backTo cpos (starEach (e::es) X.env)).all (λx=>!x.1)&&(backToKw cpos (keywordEach [] X.env)).all (λx=>x.1.isSome)
   &&decide ((e::es).length+([]:List Keyword).length+(if([]:List Keyword).isEmpty then 0 else 1)<30))=true:=by rfl)
 (hline:(apos.endLine==cpos.line)=true:=by rfl) (hs:starEach (e::es) X.env=(false,eval e X.env)::starEach es X.env:=by rfl) (hplain:(backTo cpos (starEach es X.env)).any (·.1)=false:=by rfl):
 PE X (.Call (.Attribute o name apos) (e::es) [] cpos) (tBM X.K T r to t):=by
 intro pins s σ H Q I h
 refine wpAny_Call_method_late hbase hfew hline rfl (thn (ho pins s σ H _ I h) λv s1 ⟨x,H1,I1,r1,ty,q1⟩=>?_)
 obtain⟨h1,h2⟩:=zk0 I1 r1 ty
 refine⟨T,id,pa,slot,hty,h1,h2,?_⟩
 have hA:=ha cpos pins s1 σ H1 _ I1 q1
 rw[hs] at hA⊢
 refine Calls.callWith_builtin (by show(false||(backTo cpos (starEach es X.env)).any (·.1))=false;rw[hplain]<;>rfl) (Calls.evalArgs_plain ?_)
 exact thn hA λus s2 ⟨vs,H2,I2,r2,q2⟩=>hm pins s2 σ H2 x vs v us Q I2 r1 r2 q2
end
def MtM(X:Cx)(id:String)(r:V->List V->Hp->VK->Prop):Prop:=
 ∀(pins:List (Addr×Obj)) (s:Shared) (σ:St) (H:Hp) (x:V) (xs:List V) (v:Value) (us:List Value) (Q:VK),Inv X pins σ H s->RelV x v->Vals xs us->r x xs H Q->
  wpAny (model X.prog X.w) X.A (call (.builtin id) (v::us)) (EP X pins σ Q) X.xe s
theorem Vals.one:∀{x:V} {us:List Value},Vals [x] us->∃u,us=[u]/\RelV x u
 |_,_, .cons r .nil=>⟨_,rfl,r⟩
theorem Vals.zero:∀{us:List Value},Vals [] us->us=[]
 |_, .nil=>rfl
theorem Vals.dropLast{xs:List V}{us:List Value}(h:Vals xs us):Vals xs.dropLast us.dropLast:=by
 induction h with
 |nil=>exact .nil
 |cons r t ih=>
  cases t with
  |nil=>exact .nil
  |cons q t'=>exact .cons r ih
theorem ziv{α:Type}(l:List α):l.eraseIdx (l.length -1)=l.dropLast:=by
 induction l with
 |nil=>rfl
 |cons a r ih=>
  cases r with
  |nil=>rfl
  |cons b r=>
   have e:(a::b::r).length -1=((b::r).length -1)+1:=by
    have h1:(a::b::r).length=r.length+2:=rfl
    have h2:(b::r).length=r.length+1:=rfl
    omega
   rw[e,List.eraseIdx_cons_succ,ih]
   all_goals rfl
section
variable{X:Cx}{pins:List (Addr×Obj)}{σ:St}{H:Hp}{s:Shared}{l b:Addr}{xs ys zs:List V}
theorem Inv.lset{its its':List Value}{n:Nat}{f:Array Value->Array Value}{t':Nat}(I:Inv X pins σ H s)(hH:H l=some (.lst xs))
 (e:s.heap.get? l=some {cls:= .type "list",data:= .seq its.toArray n}) (hf:f its.toArray=its'.toArray) (hv:Vals ys its') (hz:ys.length<=sizeLine):
 Inv X pins σ (upd H l (.lst ys)) {s with heap:=s.heap.update l (Obj.mapSeq f),toks:=t'}:=by
 have q:=PySem.IsL.update e f
 rw[hf] at q
 refine I.write (x:=l) (e:=l) (by rw[hH];exact trivial) (.inl rfl) (λb' u hb hu=>(Heap.get?_update_other s.heap (Obj.mapSeq f) (Ne.symm hb)).trans hu) ⟨_,q⟩ ?_
 exact⟨hz,its',_,hv,q⟩
theorem Inv.lnew{its:List Value}{t':Nat}(I:Inv X pins σ H s)(hv:Vals ys its)(hz:ys.length<=sizeLine):
 Inv X pins σ (upd H s.heap.objs.size (.lst ys)) {s with heap:=s.heap.push {cls:= .type "list",data:= .seq its.toArray},toks:=t'}:=
 I.laid (λ_ _ q=>Heap.get?_push_of_some _ q) (Nat.le_refl _) ⟨hz,its,0,hv,Heap.get?_push_size _ rfl⟩
theorem Inv.fresh(I:Inv X pins σ H s):H s.heap.objs.size=none:=I.hok.fresh (Nat.le_refl _)
theorem Inv.lstM(I:Inv X pins σ H s)(hH:H l=some (.lst xs)):xs.length<=sizeLine/\∃(its:List Value) (n:Nat),Vals xs its/\xs.length=its.length/\s.heap.get? l=some {cls:= .type "list",data:= .seq its.toArray n}:=by
 obtain⟨z,its,n,r,e⟩:=I.hok l _ hH
 exact⟨z,its,n,r,r.length,e⟩
theorem zkB{n:Nat}(h:n<=sizeLine):Builtin.List.listTooLong n=false:=by
 unfold Builtin.List.listTooLong
 exact decide_eq_false (by omega)
end
section
variable{X:Cx}
def zmR:V->List V->Hp->VK->Prop:=λx vs H Q=>∃l xs y,x= .ref l/\vs=[y]/\H l=some (.lst xs)/\xs.length<sizeLine/\Q .non (upd H l (.lst (xs ++ [y])))
theorem zaD:MtM X "list.append" zmR:=by
 intro pins s σ H x vs v us Q I rx rv h
 obtain⟨l,xs,y,rfl,rfl,hH,hz,q⟩:=h
 cases rx
 obtain⟨u,rfl,ru⟩:=rv.one
 obtain⟨z,its,n,r,hl,e⟩:=I.lstM hH
 refine call_meets F.slot_list_append ⟨_,e,rfl⟩ F.entry_list_append (F.args_list_append_2 _ _) (PySem.list_append l its.toArray n u (by rw[List.size_toArray];omega)) ⟨e,?_⟩
 refine⟨.non,_,I.lset (its':=its ++ [u]) hH e (by simp) (r.append (.cons ru .nil)) ?_,rfl,q⟩
 rw[List.length_append,List.length_singleton]
 omega
def znd:V->List V->Hp->VK->Prop:=λx vs H Q=>∃l b xs zs,x= .ref l/\vs=[.ref b]/\H l=some (.lst xs)/\H b=some (.lst zs)/\xs.length+zs.length<=sizeLine/\Q .non (upd H l (.lst (xs ++zs)))
theorem mt_extend:MtM X "list.extend" znd:=by
 intro pins s σ H x vs v us Q I rx rv h
 obtain⟨l,b,xs,zs,rfl,rfl,hH,hB,hz,q⟩:=h
 cases rx
 obtain⟨u,rfl,ru⟩:=rv.one
 cases ru
 obtain⟨z,its,n,r,hl,e⟩:=I.lstM hH
 obtain⟨z2,its2,n2,r2,hl2,e2⟩:=I.lstM hB
 have hsz:its.toArray.size+its2.toArray.size<=sizeLine:=by rw[List.size_toArray,List.size_toArray];omega
 have hlong:¬(!its.toArray.isEmpty&&Builtin.List.listTooLong (its.toArray.size+its2.toArray.size))=true:=by
  rw[zkB hsz,Bool.and_false]
  exact Bool.false_ne_true
 refine call_meets F.slot_list_extend ⟨_,e,rfl⟩ F.entry_list_extend (F.args_list_extend_2 _ _)
  (AutoSeq1.list_extend_list_list_0 l its.toArray n b its2.toArray n2 hlong (by rw[List.size_toArray];omega) (by omega)) ⟨e,e2,?_⟩
 refine⟨.non,_,I.lset (its':=its ++its2) hH e (by simp) (r.append r2) ?_,rfl,q⟩
 rw[List.length_append]
 omega
def zqd:V->List V->Hp->VK->Prop:=λx vs H Q=>∃l xs y,x= .ref l/\vs=[]/\H l=some (.lst xs)/\xs[xs.length -1]?=some y/\Q y (upd H l (.lst xs.dropLast))
theorem zoz:MtM X "list.pop" zqd:=by
 intro pins s σ H x vs v us Q I rx rv h
 obtain⟨l,xs,y,rfl,rfl,hH,hy,q⟩:=h
 cases rx
 have hus:=rv.zero
 subst hus
 obtain⟨z,its,n,r,hl,e⟩:=I.lstM hH
 obtain⟨u,hu,ru⟩:=r.get hy
 have hy':its.toArray[its.toArray.size -1]?=some u:=by
  show its.toArray[its.length -1]?=some u
  rw[←Array.getElem?_toList,←hl]
  exact hu
 refine call_meets F.slot_list_pop ⟨_,e,rfl⟩ F.entry_list_pop (F.args_list_pop_1 _) (MeetsSeq.list_pop_last l its.toArray n u hy' (by rw[List.size_toArray];omega)) ⟨e,?_⟩
 refine⟨y,_,I.lset (its':=its.dropLast) hH e ?_ r.dropLast ?_,ru,q⟩
 ·show its.toArray.eraseIdxIfInBounds (its.toArray.size -1)=its.dropLast.toArray
  rw[List.size_toArray,List.eraseIdxIfInBounds_toArray,ziv]
 ·rw[List.length_dropLast]
  omega
def zpZ:R2:=λx y H Q=>∃l b xs zs,x= .ref l/\y= .ref b/\H l=some (.lst xs)/\H b=some (.lst zs)/\xs.length+zs.length<=sizeLine/\∀p,H p=none->Q (.ref p) (upd H p (.lst (xs ++zs)))
theorem zoL:OpR X (binaryOp .Add) zpZ:=by
 intro pins s σ H x y v u Q I rx ry h
 obtain⟨l,b,xs,zs,rfl,rfl,hH,hB,hz,q⟩:=h
 cases rx
 cases ry
 obtain⟨z,its,n,r,hl,e⟩:=I.lstM hH
 obtain⟨z2,its2,n2,r2,hl2,e2⟩:=I.lstM hB
 refine PySem.P.add_list e e2 ?_ (by rw[List.size_toArray,List.size_toArray];omega)
 have ea:its.toArray ++its2.toArray=(its ++its2).toArray:=by simp
 rw[ea]
 exact⟨.ref _,_,I.lnew (t':=s.toks) (r.append r2) (by rw[List.length_append];omega),rfl,q _ I.fresh⟩
end
section
variable{prog:Program}{w:World}{A:Around}{E:Value->Shared->Prop}{s:Shared}
set_option maxRecDepth 100000 in
end
section
variable{X:Cx}
end
end L2
namespace Att
open PySem PySem.W PySem.Calls PyProof.Rows
theorem zej{P:Params}{h:Heap}:∀(ns:List Int) (vs:List Value),WellAll P h vs (ns.map WData.int)->IntsAre vs ns:=by
 intro ns
 induction ns with
 |nil=>
  intro vs w
  rw[List.map_nil] at w
  cases w
  exact .nil
 |cons n ns ih=>
  intro vs w
  rw[List.map_cons] at w
  cases w with
  |cons a b=>
   cases a
   exact .cons _ _ (ih _ b)
theorem zjT{l:OpenLaw}{n:Nat}(hn:l.most=some n){P:Params}{h:Heap}{args:List WData}{vals:List Value}
 (hpre:l.row.toRowW.claim.pre args=true) (hwl:WellAll P h vals args):
 ∃a vs ns,vals=[Value.ref a]/\args=[WData.list (ns.map WData.int)]/\h.get? a=some {cls:= .type "list",data:= .seq vs.toArray}/\IntsAre vs ns/\ns.length<=n:=by
 have hsh:WShape.hasAll [] args [.list .int]=true:=(pre_splitW hpre).1
 have hc:l.pre.holds [] {args:=args}=true:=(pre_splitW hpre).2
 obtain⟨d,r,rfl,h1,h2⟩:=hasAllW_cons hsh
 obtain rfl:=hasAllW_nil h2
 obtain⟨xs,rfl,h3⟩:=hasW_list h1
 obtain⟨ns,rfl⟩:=items_int h3
 have hlen:ns.length<=n:=by
  unfold OpenLaw.pre at hc
  have h4:(WTm.not (.lt (.lit (.int (n:Int))) (.len (.arg 0)))).holds [] {args:=[.list (ns.map .int)]}=true:=by
   have h4:=(holds_andW hc).1
   rw[hn] at h4
   exact h4
  have h5:=condW_of h4 (w_not (w_lt w_lit (w_len_list (w_arg rfl))))
  rw[List.length_map] at h5
  refine Nat.le_of_not_lt λq=>?_
  have q':(n:Int)<((ns.length:Nat):Int):=by omega
  first
   |(rw[decide_eq_true q'] at h5;exact absurd h5 (by decide))
   |(simp at h5;omega)
 cases hwl with
 |cons w1 w2=>
  cases w2
  cases w1 with
  |list ho hall=>exact ⟨_,_,ns,rfl,rfl,ho,zej ns _ hall,hlen⟩
theorem zjY(l:OpenLaw)(args:List WData):l.row.toRowW.claim.post args (.bool true) args=true:=
 postW_of (r:=l.row.toRowW) (X:=(true==true))
  (show WShape.has [] (.bool true) .bool=true by first|rfl|decide|simp[WShape.has,WShape.arms,WShape.armsAll])
  (show(WTm.eq .res (.lit (.bool true))).value [] {args:=args,res:=some (.bool true),after:=args}=some (.bool (true==true))from w_eq_bool (w_res rfl) w_lit) rfl
theorem attach_call{l:OpenLaw}{n:Nat}{q:Program}{loose:List Str}{XP:(Str->Option Value)->Heap->Prop}{YP:World->Heap->Prop}{d:DefRec}
 (hn:l.most=some n) (hdf:d.params.defaults=[])
 (call:∀(w:World) (s₀ s₁:Shared) (mg mb:Str->Option Value) (fa:Addr) (o:Obj) (pm cd doc:Value) (a:Addr) (vs:List Value) (ns:List Int),
   Ground q loose [] XP w s₀ mg mb s₁.heap->YP w s₁.heap->
   s₁.heap.get? fa=some o->o.data= .func (docDef d.name d.params d.body d.scope pm cd doc)->s₁.heap.CodeRec cd d.name->mg d.name=some (.ref fa)->
   s₁.heap.get? a=some {cls:= .type "list",data:= .seq vs.toArray}->IntsAre vs ns->ns.length<=n->s₁.gens= #[]->
   codeAny (model l.prog w) callerA (.call (.ref fa) ⟨[.ref a],[]⟩) (λr s'=>r= .ok (.ret (.bool true))/\OldK s₁.heap s'.heap/\s'.os=s₁.os/\AllBare s'.gens) s₁):
 WalkO q loose XP YP l.row.toRowW d [] (λf vs=>PySem.call f vs):=by
 intro w s₀ s₁ mg mb G Y fa o pm cd doc dV kV ho hd hcd hD hmg hg args vals as hpre hlay hrd hwl hlo
 obtain rfl:dV= .none:=Dflts.none hD hdf
 obtain rfl:kV= .none:=Dflts.noKw hD
 obtain⟨a,vs,ns,rfl,rfl,hobj,hints,hlen⟩:=zjT hn hpre hwl
 refine enter_call (codeAny_mono (call w s₀ s₁ mg mb fa o pm cd doc a vs ns G Y ho (fd_plain hd) hcd hmg hobj hints hlen hg) λr s' hq=>?_)
 obtain⟨rfl,h2,h3,h4⟩:=hq
 exact⟨.inl ⟨.bool true, .bool true,[],rfl,λ_=>rfl, .bool true,zjY l _,λ_=>⟨List.Pairwise.nil,λ_ hm=>(nomatch hm)⟩⟩,h2,h3,h4⟩
section
variable{prog:Program}{w:World}{A:Around}{E:Value->Shared->Prop}{s:Shared}{K:Frag}
end
end Att
namespace L2
open PySem PySem.Spec PyProof.Rows
theorem zfu:∀{vs:List Value} {ns:List Int},IntsAre vs ns->Vals (ns.map V.int) vs
 |_,_, .nil=> .nil
 |_,_, .cons n t h=> .cons ⟨t,rfl⟩ (zfu h)
def zol(H:Hp):Prop:=∀b,H b=none\/∃o xs,H b=some (.frz o (.lst xs))
theorem zkp{P:Program}{w:World}{K:PySem.W.Frag}{mg mb:Str->Option Value}{CX:CXT}{k:Nat}{fa a:Addr}{fd:FuncData}{x:Str}{sp:Sp}{s₁:Shared}{vs:List Value}{ns:List Int}
 (KX:K.In s₁.heap) (hns:s₁.heap.Ns mainGlobals mg) (hb:s₁.heap.Ns builtinsNs mb) (hbb:∀x:Str,x≠"__name__"->mb x=bootBuiltins x) (hlim:s₁.heap.NoLimit) (hg:s₁.gens= #[])
 (ha:s₁.heap.get? a=some {cls:= .type "list",data:= .seq vs.toArray}) (hi:IntsAre vs ns) (hl:ns.length<=sizeLine) (hr:Room k callerA)
 (F:∀base:Heap,K.In base->base.Ns mainGlobals mg->FnOk P w K mg base CX k fa fd [x] sp) (hbind:∀(s:Shared) (u:Value),BindsTo s fd ⟨[u],[]⟩ [(x,u)])
 (hsp:∀H:Hp,zol H->SqL K H a (ns.map V.int)->sp [.ref a] H (λv _=>v= .bl true) λ_ _ _=>False)
 (hCX:∀H e s',CX [] H s₁ (λ_ _ _=>False) e s'->False):
 codeAny (model P w) callerA (.call (.ref fa) ⟨[.ref a],[]⟩) (λr s'=>r= .ok (.ret (.bool true))/\OldK s₁.heap s'.heap/\s'.os=s₁.os/\AllBare s'.gens) s₁:=by
 have rv:=zfu hi
 have lenV:=hi.length
 have core:∀H:Hp,zol H->SqL K H a (ns.map V.int)->HOk P w H s₁.heap->(∀b,H b≠none->b=a)->(H a≠none->K.lookup a=none)->
  codeAny (model P w) callerA (.call (.ref fa) ⟨[.ref a],[]⟩) (λr s'=>r= .ok (.ret (.bool true))/\OldK s₁.heap s'.heap/\s'.os=s₁.os/\AllBare s'.gens) s₁:=by
  intro H hO hS hok hA hK
  have base_of:∀{b:Addr} {o:Obj},s₁.heap.get? b=some o->H b=none->(zf5 s₁.heap H).get? b=some o:=λe n=>zko e n
  have noA:∀{b:Addr} {o:Obj} {es:Array DictEntry} {ep:Nat},s₁.heap.get? b=some o->o.data= .dict es ep->H b=none:=λ{b o es ep} e d=>by
   cases q:H b with
   |none=>rfl
   |some u=>
    have e':b=a:=hA b (by rw[q];simp)
    subst e'
    rw[ha] at e;cases e
    have d':Data.seq vs.toArray _=Data.dict es ep:=d
    cases d'
  have nsK:∀{b:Addr} {m:Str->Option Value},s₁.heap.Ns b m->(zf5 s₁.heap H).Ns b m:=λ{b m} ⟨o,es,ep,e,d,r⟩=>⟨o,es,ep,base_of e (noA e d),d,r⟩
  have hKb:K.In (zf5 s₁.heap H):=λb o e=>base_of (KX b o e) (by
   cases q:H b with
   |none=>rfl
   |some u=>
    have e':b=a:=hA b (by rw[q];simp)
    subst e'
    rw[hK (by rw[q];simp)] at e;cases e)
  have hM:Mod K mg (zf5 s₁.heap H):=⟨hKb,nsK hns,⟨mb,nsK hb,hbb⟩,let⟨mc,h1,h2⟩:=hlim;⟨mc,nsK h1,h2⟩⟩
  have e0:Env0 P w K mg (zf5 s₁.heap H) callerA [] s₁ H:=⟨rfl,hM,λb o e=>zm9 e,Nat.le_of_eq (zjr _ _),trivial,λb hb=>absurd (show b∈([]:List Addr)from hb) (by simp),hok, .of_eq hg⟩
  refine codeAny_mono ((F _ hKb (nsK hns)).run callerA [] s₁ H ⟨[.ref a],[]⟩ [.ref a] [.ref a] _ _ hr e0 (hbind s₁ (.ref a)) (.cons rfl .nil) (hsp H hO hS)) λr s' h=>?_
  cases r with
  |error e=>exact (hCX H e s' h).elim
  |ok fl=>
   cases fl with
   |next=>exact False.elim h
   |brk=>exact False.elim h
   |cont=>exact False.elim h
   |ret u=>
    obtain⟨v,H',os,bare,un,hok',r',q⟩:=h
    have q':v= .bl true:=q
    subst q'
    obtain rfl:u=Value.bool true:=r'
    refine⟨rfl,OldK.of_keep λb o e=>?_,os,bare⟩
    cases q:H b with
    |none=>exact un.keep b o e q (by intro z;exact absurd (show b∈([]:List Addr)from z) (by simp)) (by simp)
    |some u=>
     rcases hO b with z|⟨ob,xs,z⟩
     ·rw[q] at z;cases z
     ·have z2:=un.frzs b ob _ z
      obtain⟨e1,_⟩:=hok b _ z
      obtain⟨e2,_⟩:=hok' b _ z2
      rw[e] at e1;cases e1
      exact e2
 cases hk:K.lookup a with
 |some o=>
  have e:=KX a o hk
  rw[ha] at e
  cases e
  refine core (λ_=>none) (λ_=> .inl rfl) (.inr ⟨_,vs.toArray,_,hk,rfl,rfl,rfl,by rw[List.size_toArray,lenV];exact hl,by simpa using rv⟩) (λb u z=>by have z':(none:Option HO)=some u:=z;cases z') (λb z=>absurd rfl z) λz=>absurd rfl z
 |none=>
  refine core (λb=>if b=a then some (.frz {cls:= .type "list",data:= .seq vs.toArray} (.lst (ns.map V.int)))else none) (λb=>?_) (.inl (.inr ⟨{cls:= .type "list",data:= .seq vs.toArray},if_pos rfl⟩)) (λb u z=>?_) (λb z=>?_) λ_=>hk
  ·by_cases hb:b=a
   ·exact .inr ⟨_,_,if_pos hb⟩
   ·exact .inl (if_neg hb)
  ·by_cases hb:b=a
   ·have z':=(if_pos hb).symm.trans z
    cases z'
    subst hb
    exact⟨ha,by rw[List.length_map];exact hl,vs,_,rv,ha⟩
   ·have z':=(if_neg hb).symm.trans z
    cases z'
  ·by_cases hb:b=a
   ·exact hb
   ·exact absurd (if_neg hb) z
theorem walk_of{l:PySem.W.OpenLaw}{n k:Nat}{q:Program}{loose:List Str}{XP:(Str->Option Value)->Heap->Prop}{YP:World->Heap->Prop}{d:DefRec}{K:Params->PySem.W.Frag}{CX:World->CXT}{sp:World->Sp}{x:Str}
 (hn:l.most=some n) (hn2:n<=sizeLine) (hdf:d.params.defaults=[]) (hr:Room k callerA)
 (hY:∀(w:World) (h:Heap),YP w h->(K w.params).In h)
 (F:∀(w:World) (mg:Str->Option Value) (fa:Addr) (h:Heap),(K w.params).In h->h.Ns mainGlobals mg->mg d.name=some (.ref fa)->
   ∃fd:FuncData,(∀(s:Shared) (u:Value),BindsTo s fd ⟨[u],[]⟩ [(x,u)])/\
    ∀base:Heap,(K w.params).In base->base.Ns mainGlobals mg->FnOk l.prog w (K w.params) mg base (CX w) k fa fd [x] (sp w))
 (hsp:∀(w:World) (H:Hp) (a:Addr) (ns:List Int),ns.length<=n->zol H->SqL (K w.params) H a (ns.map V.int)->sp w [.ref a] H (λv _=>v= .bl true) λ_ _ _=>False)
 (hCX:∀(w:World) (H:Hp) (s:Shared) (e:Value) (s':Shared),CX w [] H s (λ_ _ _=>False) e s'->False):
 PySem.W.WalkO q loose XP YP l.row.toRowW d [] (λf vs=>PySem.call f vs):=by
 refine Att.attach_call hn hdf λw s₀ s₁ mg mb fa o pm cd doc a vs ns G Y ho hd hcd hmg hobj hints hlen hg=>?_
 have KX:=hY w _ Y
 obtain⟨fd,hb,hF⟩:=F w mg fa _ KX G.T.g hmg
 exact zkp KX G.T.g G.T.b G.T.builtins G.T.nolimit hg hobj hints (Nat.le_trans hlen hn2) hr hF hb (λH hO hS=>hsp w H a ns hlen hO hS) λH e s'=>hCX w H s₁ e s'
def zr(s:Stmt):Arguments:=match s with
 | .FunctionDef _ a _ _ _ _ _ _ _ _=>a
 |_=>{posonlyargs:=[],args:=[],vararg:=none,kwonlyargs:=[],kw_defaults:=[],kwarg:=none,defaults:=[]}
def zp(s:Stmt):List Stmt:=match s with
 | .FunctionDef _ _ b _ _ _ _ _ _ _=>b
 |_=> []
def zd(s:Stmt):Scope:=match s with
 | .FunctionDef _ _ _ _ _ _ sc _ _ _=>sc
 |_=>{kind:= .function,names:=[],isGenerator:=false,isCoroutine:=false}
abbrev CX0:CXT:=λ_ _ _ _ _ _=>False
abbrev E0:XK:=λ_ _ _=>False
theorem zo{X:Cx}:zf1 CX0 X E0:=λ_ _ _ _ _ _ _ h=>h.elim
structure Fun(K:PySem.W.Frag)(x qual:Str)(st:Stmt)(f:Addr)(fd:FuncData):Prop where
 ex:∃(oc:Value) (od:Option Addr) (kV doc pm:Value) (an:Option Addr) (cdv ct:Value) (osl:Array (Option Value)),
  fd=PySem.W.fnOf x qual (zr st) (zp st) (zd st) .none kV doc pm an cdv ct/\K.lookup f=some ⟨oc,od, .func fd,osl⟩/\PySem.W.codeIn K cdv qual=true
 kp:PySem.W.keepIn K (.ref f)=true
section
variable{P:Program}{w:World}{K:PySem.W.Frag}{mg:Str->Option Value}{base:Heap}
theorem Fun.ok{x qual:Str}{st:Stmt}{f:Addr}{fd:FuncData}{N ps:List Str}{k:Nat}{sp:Sp}(F:Fun K x qual st f fd)(S:FnScope N ps (zd st))(len:∀vs H Q E,sp vs H Q E->vs.length=ps.length)
 (hbody:∀(cdv:Value) (A:Around) (outer:List Env) (s:Shared) (H:Hp) (vs:List V) (Q:VK) (E:XK),Room k (A.deeper (envOfC qual (zd st) s.heap.objs.size f cdv))->sp vs H Q E->
   ∃t,PSs (zgL CX0 P w K mg base N qual (zd st) f cdv A outer s H E).nox (zp st) t/\t {nx:=λ_ H'=>Q .non H',rt:=Q} (start N vs) H):FnOk P w K mg base CX0 (k+1) f fd ps sp:=by
 obtain⟨oc,od,kV,doc,pm,an,cdv,ct,osl,rfl,lk,hcd⟩:=F.ex
 refine znX lk hcd S len λA outer s H vs Q E hr hsp=>?_
 obtain⟨t,h,q⟩:=hbody cdv A outer s H vs Q E hr hsp
 exact⟨t,h.nox,q⟩
theorem Fun.binds{x qual:Str}{st:Stmt}{f:Addr}{fd:FuncData}{ps:List Str}(F:Fun K x qual st f fd)
 (h:∀(kV doc pm:Value) (an:Option Addr) (cdv ct:Value) (us:List Value),us.length=ps.length->bindArgs (PySem.W.fnOf x qual (zr st) (zp st) (zd st) .none kV doc pm an cdv ct) ⟨us,[]⟩=pure (ps.zip us)):Binds K fd ps []:=by
 obtain⟨oc,od,kV,doc,pm,an,cdv,ct,osl,rfl,lk,hcd⟩:=F.ex
 exact .all (h kV doc pm an cdv ct)
theorem zK{x qual:Str}{st:Stmt}{f:Addr}{oc:Value}{od an:Option Addr}{osl:Array (Option Value)}{kV doc pm cdv ct:Value}(l:K.lookup f=some ⟨oc,od, .func (PySem.W.fnOf x qual (zr st) (zp st) (zd st) .none kV doc pm an cdv ct),osl⟩)
 (c:PySem.W.codeIn K cdv qual=true) (k:PySem.W.keepIn K (.ref f)=true):Fun K x qual st f (PySem.W.fnOf x qual (zr st) (zp st) (zd st) .none kV doc pm an cdv ct):=⟨⟨oc,od,kV,doc,pm,an,cdv,ct,osl,rfl,l,c⟩,k⟩
end
theorem zn{n:Nat}(h:n<=1000):n<sizeLine:=Nat.lt_of_le_of_lt h (by decide)
section
variable{X:Cx}
end
theorem zbS{c A B:Prop}[Decidable c](h1:c->A)(h2:¬c->B):if c then A else B:=by
 by_cases h:c
 ·rw[if_pos h]
  exact h1 h
 ·rw[if_neg h]
  exact h2 h
def Same(H H':Hp):Prop:=∀b o,H b=some o->H' b=some o
theorem Same.refl(H:Hp):Same H H:=λ_ _ h=>h
theorem Same.trans{H H1 H2:Hp}(a:Same H H1)(b:Same H1 H2):Same H H2:=λc o h=>b c o (a c o h)
theorem Same.free{H H':Hp}(e:Same H H'){l:Addr}(h:H' l=Option.none):H l=Option.none:=by
 cases q:H l with
 |none=>rfl
 |some o=>
  rw[e l o q] at h
  cases h
theorem Same.seq{K:PySem.W.Frag}{H H':Hp}{a:Addr}{xs:List V}(e:Same H H')(h:SqL K H a xs):SqL K H' a xs:=by
 rcases h with(h|⟨o,h⟩)|h
 ·exact .inl (.inl (e _ _ h))
 ·exact .inl (.inr ⟨o,e _ _ h⟩)
 ·exact .inr h
end L2
set_option maxHeartbeats 4000000
namespace L2
open PySem PySem.Spec PyProof.Rows
def zy(X:Cx)(N':List Str)(scope:Scope)(cl:List (Str×Addr))(C:Addr)(s₀:Shared)(H₀:Hp)(fp:List Addr):Cx:=
 {prog:=X.prog,w:=X.w,K:=X.K,mg:=X.mg,base:=X.base,A:=X.A,N:=N',s₀:=s₀,H₀:=H₀,env:=compEnvC scope cl C X.env,outer:=X.stack,stack:=X.stack,ex:=fp,fn:=λ_=>false,
  calm:=X.calm,pn:=[],xe:=λ_ _=>False}
structure CompOk(N:List Str)(osc:Scope)(N':List Str)(src:List (Option Nat))(scope:Scope):Prop where
 kind:scope.kind= .function
 nocell:∀y∈scope.names,y.2≠ .cell
 loc:∀y∈scope.names,y.2= .local->scope.names.lookup y.1=some .local
 frees:∀y∈scope.names,y.2= .free->osc.names.lookup y.1=some .cell\/osc.names.lookup y.1=some .free
 nd:N'.Nodup
 len:src.length=N'.length
 src:∀q∈src.zip N',∀j∈q.1.toList,N[j]?=some q.2/\scope.names.lookup q.2=some .free
theorem zdf{env:Env}:∀(l:List (Str×NameKind)) (acc:List (Str×Addr)),(∀x c,acc.lookup x=some c->env.cells.lookup x=some c)->(∀y∈l,y.2= .free->∃c,env.cells.lookup y.1=some c)->
 ∃cl,(forIn l acc λ(x:Str×NameKind) (r:List (Str×Addr))=>(if(x.2==NameKind.free)=true then(cellOf env x.1>>=λa=>pure (ForInStep.yield ((x.1,a)::r)))else pure (ForInStep.yield r):Sem (ForInStep (List (Str×Addr)))))=pure cl/\
  (∀x c,cl.lookup x=some c->env.cells.lookup x=some c)/\(∀y∈l,y.2= .free->∃c,cl.lookup y.1=some c)/\(∀x c,acc.lookup x=some c->∃d,cl.lookup x=some d)
 |[],acc,h,_=>⟨acc,rfl,h,λ_ z=>(nomatch z),λx c e=>⟨c,e⟩⟩
 |(n,k)::l,acc,h,hf=>by
  by_cases hk:k= .free
  ·subst hk
   obtain⟨c,hc⟩:=hf (n, .free) List.mem_cons_self rfl
   have hacc:∀x d,((n,c)::acc).lookup x=some d->env.cells.lookup x=some d:=λx d e=>by
    rw[List.lookup_cons] at e
    cases hx:x==n with
    |true=>
     rw[hx] at e
     have e1:x=n:=by simpa using hx
     have e2:c=d:=by simpa using e
     rw[e1,←e2];exact hc
    |false=>
     rw[hx] at e
     exact h x d e
   obtain⟨cl,e1,e2,e3,e4⟩:=zdf l ((n,c)::acc) hacc λy hy=>hf y (List.mem_cons_of_mem _ hy)
   refine⟨cl,?_,e2,λy hy hyf=>?_,λx d e=>?_⟩
   ·rw[List.forIn_cons]
    have:cellOf env n=pure c:=by unfold cellOf;rw[hc]
    simp only[beq_self_eq_true,if_true,this,pure_bind]
    exact e1
   ·rcases List.mem_cons.mp hy with rfl|hy
    ·exact e4 n c (by simp)
    ·exact e3 y hy hyf
   ·by_cases hx:x=n
    ·subst hx;exact e4 x c (by simp)
    ·have hb:(x==n)=false:=by simpa using hx
     exact e4 x d (by rw[List.lookup_cons,hb];exact e)
  ·obtain ⟨cl,e1,e2,e3,e4⟩:=zdf l acc h λy hy=>hf y (List.mem_cons_of_mem _ hy)
   refine⟨cl,?_,e2,λy hy hyf=>?_,e4⟩
   ·rw[List.forIn_cons]
    have hb:(k==NameKind.free)=false:=by simpa using hk
    simp only[hb,Bool.false_eq_true,if_false,pure_bind]
    exact e1
   ·rcases List.mem_cons.mp hy with rfl|hy
    ·exact absurd hyf hk
    ·exact e3 y hy hyf
theorem zde{scope:Scope}{env:Env}(hf:∀y∈scope.names,y.2= .free->∃c,env.cells.lookup y.1=some c):
 ∃cl,closureFor scope env=pure cl/\(∀x c,cl.lookup x=some c->env.cells.lookup x=some c)/\∀y∈scope.names,y.2= .free->∃c,cl.lookup y.1=some c:=by
 obtain⟨cl,e1,e2,e3,_⟩:=zdf (env:=env) scope.names [] (λ_ _ z=>by simp at z) hf
 refine⟨cl,?_,e2,e3⟩
 unfold closureFor
 refine Eq.trans ?_ (congrArg (λt=>t>>=λc=>(pure c:Sem (List (Str×Addr)))) e1)
 first
  |rfl
  |(congr 1)
theorem zge{scope:Scope}{env:Env}:∀{x:Str},(relabel scope env).names.lookup x=some .cell\/(relabel scope env).names.lookup x=some .free->(∀y∈scope.names,y.2≠ .cell)->(x,NameKind.free)∈scope.names:=by
 intro x h hc
 have key:∀(l:List (Str×NameKind)),(∀y∈l,y.2≠ .cell)->((l.map λ(n,k)=>if (k==NameKind.free&&env.scope.kind== .function&&env.kindOf n==some .cell)then(n,NameKind.cell)else(n,k)).lookup x=some .cell\/
  (l.map λ(n,k)=>if (k==NameKind.free&&env.scope.kind== .function&&env.kindOf n==some .cell)then(n,NameKind.cell)else(n,k)).lookup x=some .free)->(x,NameKind.free)∈l:=by
  intro l
  induction l with
  |nil=>intro _ h;simp at h
  |cons y l ih=>
   obtain⟨n,k⟩:=y
   intro hc h
   have hc':∀y∈l,y.2≠ .cell:=λy hy=>hc y (List.mem_cons_of_mem _ hy)
   have hk:k≠ .cell:=hc (n,k) List.mem_cons_self
   rw[List.map_cons] at h
   by_cases hx:x=n
   ·subst hx
    by_cases hf:k= .free
    ·subst hf;exact List.mem_cons_self
    ·exfalso
     have hb:(k==NameKind.free)=false:=by simpa using hf
     simp only[hb,Bool.false_and,Bool.false_eq_true,if_false,List.lookup_cons,beq_self_eq_true] at h
     rcases h with h|h
     ·exact hk (Option.some.inj h)
     ·exact hf (Option.some.inj h)
   ·refine List.mem_cons_of_mem _ (ih hc' ?_)
    have hb:(x==n)=false:=by simpa using hx
    by_cases hq:(k==NameKind.free&&env.scope.kind== .function&&env.kindOf n==some .cell)=true
    ·simp only[hq,if_true,List.lookup_cons,hb] at h
     exact h
    ·simp only[hq,Bool.false_eq_true,if_false,List.lookup_cons,hb] at h
     exact h
 exact key _ hc h
theorem zgr{scope:Scope}{env:Env}{x:Str}(h:scope.names.lookup x=some .free):(relabel scope env).names.lookup x=some .cell\/(relabel scope env).names.lookup x=some .free:=by
 have key:∀(l:List (Str×NameKind)),l.lookup x=some .free->((l.map λ(n,k)=>if (k==NameKind.free&&env.scope.kind== .function&&env.kindOf n==some .cell)then(n,NameKind.cell)else(n,k)).lookup x=some .cell\/
  (l.map λ(n,k)=>if (k==NameKind.free&&env.scope.kind== .function&&env.kindOf n==some .cell)then(n,NameKind.cell)else(n,k)).lookup x=some .free):=by
  intro l
  induction l with
  |nil=>intro h;simp at h
  |cons y l ih=>
   obtain⟨n,k⟩:=y
   intro h
   rw[List.map_cons]
   rw[List.lookup_cons] at h
   cases hx:x==n with
   |true=>
    rw[hx] at h
    have hk:k= .free:=Option.some.inj h
    subst hk
    by_cases hq:(NameKind.free==NameKind.free&&env.scope.kind== .function&&env.kindOf n==some .cell)=true
    ·simp only[hq,if_true,List.lookup_cons,hx];exact .inl trivial
    ·simp only[hq,Bool.false_eq_true,if_false,List.lookup_cons,hx];exact .inr trivial
   |false=>
    rw[hx] at h
    by_cases hq:(k==NameKind.free&&env.scope.kind== .function&&env.kindOf n==some .cell)=true
    ·simp only[hq,if_true,List.lookup_cons,hx];exact ih h
    ·simp only[hq,Bool.false_eq_true,if_false,List.lookup_cons,hx];exact ih h
 exact key _ h
def zdk(src:List (Option Nat))(σ:St):St:=src.map λo=>o.bind λj=>(σ[j]?).join
section
variable{X:Cx}{pins:List (Addr×Obj)}{σ:St}{H:Hp}{s:Shared}{N':List Str}{src:List (Option Nat)}{scope osc:Scope}{cl:List (Str×Addr)}{fp:List Addr}
theorem zdg{h₁:Heap}{tk:Nat}(I:Inv X pins σ H s)(hf:∀b∈fp,zc5 X pins H b)(hlt:∀b∈fp,b<s.heap.objs.size)(ok:CompOk X.N osc N' src scope)(hsc:X.env.scope=osc)
 (c1:∀x c,cl.lookup x=some c->X.env.cells.lookup x=some c) (c2:∀y∈scope.names,y.2= .free->∃c,cl.lookup y.1=some c)
 (hn:h₁.Ns s.heap.objs.size λ_=>none) (hk:∀b o,s.heap.get? b=some o->h₁.get? b=some o):
 Inv (zy X N' scope cl s.heap.objs.size s H fp) [] (zdk src σ) H {s with heap:=h₁,toks:=tk}:=by
 have hkind:(relabel scope X.env).kind= .function:=ok.kind
 refine⟨⟨I.ok.mod,hkind,I.ok.glob,I.ok.blt,Nat.le_refl _,λx y c h1 h2=>I.ok.inj x y c (c1 x c h1) (c1 y c h2),λx hx=>?_,λx c z _=>(by cases z),I.ok.hd,I.ok.frames, .inl rfl,λb hb=>?_,I.bs,Nat.le_trans I.ok.bsz I.sz,λb o e hb=>?_,λb hb z=>?_,I.stack,I.stkFree⟩,
  rfl,I.bare,Un.kept hk,⟨_,hn,λi x v h1 h2 h3=>?_⟩,λx c e=>?_,I.hok.fresh (Nat.le_refl _),λx c e=>I.freeC x c (c1 x c e),λp hp=>absurd (show p∈([]:List (Addr×Obj))from hp) (by simp),I.hok.kept hk,?_⟩
 ·exact c2 _ (zge (env:=X.env) (scope:=scope) (x:=x) hx ok.nocell) rfl
 ·obtain ⟨f0,f1,f2,f3,f4,f5⟩:=hf b hb
  exact⟨λz=>absurd (hlt b hb) (by rw[z];exact Nat.lt_irrefl _),λx c e=>f4 x c (c1 x c e)⟩
 ·obtain ⟨f0,f1,f2,f3,f4,f5⟩:=hf b hb
  rcases f3 with z|z
  ·exact I.ok.noex b o e z
  ·exact absurd (Nat.lt_of_lt_of_le (Heap.lt_size e) (Nat.le_trans I.ok.bsz z)) (Nat.lt_irrefl _)
 ·obtain ⟨f0,f1,f2,f3,f4,f5⟩:=hf b hb
  rcases List.mem_cons.mp (I.stkSub b z)with q|q
  ·exact f1 q
  ·exact f2 q
 ·
  have hi:∃j,src[i]?=some (some j)/\σ[j]?=some (some v):=by
   unfold zdk at h2
   rw[List.getElem?_map] at h2
   cases e:src[i]? with
   |none=>rw[e] at h2;cases h2
   |some o=>
    rw[e] at h2
    cases o with
    |none=>cases h2
    |some j=>
     refine⟨j,rfl,?_⟩
     have h2':(σ[j]?).join=some v:=Option.some.inj h2
     cases e2:σ[j]? with
     |none=>rw[e2] at h2';cases h2'
     |some w=>rw[e2] at h2';exact congrArg some h2'
  obtain⟨j,e1,e2⟩:=hi
  have hz:(some j,x)∈src.zip N':=by
   refine List.mem_iff_getElem?.mpr ⟨i,?_⟩
   rw[List.getElem?_zip_eq_some]
   exact⟨e1,h1⟩
  obtain⟨q1,q2⟩:=ok.src _ hz j (by simp)
  have hfr:=PySem.mem_of_lookup q2
  have hk0:=ok.frees _ hfr rfl
  rw[←hsc] at hk0
  obtain⟨m,hns,hl⟩:=I.loc
  obtain⟨u,r,l⟩:=hl j x v q1 e2 (hk0.elim (λz=> .inr (.inl z)) λz=> .inr (.inr z))
  refine⟨u,r,?_⟩
  rcases l with⟨l1,_⟩|⟨_,c,l2,l3⟩
  ·exfalso
   have l1':X.env.scope.names.lookup x=some .local:=l1
   rcases hk0 with z|z
   ·rw[l1'] at z;cases z
   ·rw[l1'] at z;cases z
  ·obtain ⟨d,hd⟩:=c2 _ hfr rfl
   have:d=c:=by
    have:=(c1 _ _ hd).symm.trans l2
    exact Option.some.inj this
   subst this
   obtain⟨o,ho,hod⟩:=l3
   exact .inr ⟨zgr q2,d,hd,o,hk _ _ ho,hod⟩
 ·obtain ⟨v,o,ho,hod⟩:=I.cell x c (c1 x c e)
  exact⟨v,o,hk _ _ ho,hod⟩
 ·show (zdk src σ).length=N'.length
  unfold zdk
  rw[List.length_map]
  exact ok.len
theorem zdn{C:Addr}{σ':St}{H':Hp}{s':Shared}{h':Heap}(I:Inv X pins σ H s)(hf:∀b∈fp,zc5 X pins H b)(hC:s.heap.objs.size<=C)(J:Inv (zy X N' scope cl C s H fp) [] σ' H' s')(hs:Heap.SameBut C s'.heap h'):
 Inv X pins σ H' {s' with heap:=h'}:=by
 have nC:∀b o,s.heap.get? b=some o->b≠C:=λb o e z=>absurd (Nat.lt_of_lt_of_le (Heap.lt_size e) (by rw[z];exact hC)) (Nat.lt_irrefl _)
 have B:Un (frs X.stack) fp H H' s.heap s'.heap:=J.base
 refine I.call' (ch:=fp) J.os ⟨λb o e n hb hx=>(hs.2 b (nC b o e)).trans (B.keep b o e n hb hx),λb o e n hb hx=>?_,B.free,λb o e hx=>?_,B.tups,B.frzs,B.tbls⟩ (λb ob e=>?_) J.bare λb hb=>?_
 ·obtain ⟨sl,e1⟩:=B.slot b o e n hb hx
  exact⟨sl,(hs.2 b (nC b o e)).trans e1⟩
 ·obtain ⟨o',e1⟩:=B.there b o e hx
  exact⟨o',(hs.2 b (nC b o e)).trans e1⟩
 ·refine (J.hok b ob e).stay (λc w' hc q=>(hs.2 c ?_).trans q) (λ_ q=>q) λ_ _ q=>q
  have hfree:H' C=none:=J.free
  rintro rfl
  rcases hc with rfl|hc
  ·rw[hfree] at e;cases e
  ·rw[hfree] at hc;cases hc
 ·obtain ⟨f0,f1,f2,f3,f4,f5⟩:=hf b hb
  exact⟨f3,f1,f4,f5⟩
end
def zfW(ifs:List Expr)(env:Env):Sem Bool:=forIn ifs true λc r=>if r=true then do let ok ←isTrue c env (eval c env);pure (ForInStep.yield ok)else pure (ForInStep.yield r)
def PIf(X:Cx)(ifs:List Expr)(t:TT):Prop:=
 ∀(pins:List (Addr×Obj)) (s:Shared) (σ:St) (H:Hp) (Q:Bool->Hp->Prop),Inv X pins σ H s->t σ H Q->wpAny (model X.prog X.w) X.A (zfW ifs X.env) (TP X pins σ Q) X.xe s
def zjO:TT:=λ_ H Q=>Q true H
theorem zl6{X:Cx}:PIf X [] zjO:=λpins s σ H Q I h=>wpAny_tests_nil ⟨H,I,h⟩
theorem znv{X:Cx}{c:Expr}{t:TT}(h:PT X c t):PIf X [c] t:=λpins s σ H Q I hq=>wpAny_tests_one (h pins s σ H Q I hq)
theorem zds{prog:Program}{w:World}{A:Around}{R:Result->Shared->Prop}{s:Shared}{elt target iter:Expr}{ifs:List Expr}{scope:Scope}{pos:Pos}{it acc:Value}{env:Env}(I:Nat->Shared->Prop)
 (turn:∀n s,I n s->wpAny (model prog w) A (pyNext it) (λr s1=>match r with
   |none=>R (.ok .next) s1
   |some v=>wpAny (model prog w) A (letOwnedTupleGo target it v) (λ_ s1'=>wpAny (model prog w) A (assign target env v) (λ_ s2=>wpAny (model prog w) A (zfW ifs env) (λok s3=>
     if ok=true then wpAny (model prog w) A (eval elt env) (λx s4=>wpAny (model prog w) A (call (.builtin "list.append") [acc,x]) (λ_ s5=>∃m,m<n/\I m s5) (λ_ _=>False) s4) (λ_ _=>False) s3
     else∃m,m<n/\I m s3) (λ_ _=>False) s2) (λ_ _=>False) s1') (λ_ _=>False) s1) (λ_ _=>False) s)
 (n:Nat) (h:I n s):codeAny (model prog w) A (.compLoop (.ListComp elt [⟨target,iter,ifs,0⟩] scope pos) 0 it acc env) R s:=by
 have no:∀{E:Value->Shared->Prop} (e:Value) (s:Shared),(λ(_:Value) (_:Shared)=>False) e s->E e s:=λ_ _ z=>False.elim z
 refine codeAny_loop rfl I (λn s hI=>?_) n h
 show wpAny _ A ((compTurn (.ListComp elt [⟨target,iter,ifs,0⟩] scope pos) 0 it acc env).onRaise (λx=>do noteFrame x env;theTreesLotGoes x)) _ _ s
 refine wpAny_noted ?_
 rw[compTurn_list]
 refine wpAny_bind (wpAny_standAt (wpAny_bind (wpAny_mono (turn n s hI) (λr s₁ h₁=>?_) no)))
 cases r with
 |none=>exact wpAny_pure h₁
 |some v=>
  refine wpAny_bind (wpAny_mono h₁ (λ_ s1' h1'=>?_) no)
  refine wpAny_bind (wpAny_mono h1' (λ_ s₂ h₂=>wpAny_bind (wpAny_mono h₂ (λok s₃ h₃=>?_) no)) no)
  cases ok with
  |false=>exact wpAny_pure ⟨rfl,h₃⟩
  |true=>
   exact wpAny_bind (wpAny_bind (wpAny_mono h₃ (λx s₄ h₄=>wpAny_bind (wpAny_mono h₄ (λ_ s₅ h₅=>wpAny_pure (wpAny_pure ⟨rfl,h₅⟩)) no)) no))
def zcu(g:TG)(tc:TT)(te:TE)(src:List (Option Nat))(σ:St)(Q:VK)(J:It)(H1:Hp):Prop:=∀l,H1 l=none->
 ∃W:Nat->Nat->List V->St->Hp->Prop,(∃m,W 0 m [] (zdk src σ) (upd H1 l (.lst [])))/\∀i m ys σ' H',W i m ys σ' H'->H' l=some (.lst ys)->
  (J.stop i H'/\Q (.ref l) H')\/(J.go i H'/\∃N:List V->St->Hp->Prop,(∀zs σ2 H2,N zs σ2 H2->∃m',m'<m/\W (i+1) m' zs σ2 H2)/\∀x H2,J.yld i H' x H2->g x σ' H2 λσ2 H3=>tc σ2 H3 λb H4=>
    if b=true then te σ2 H4 λy H5=>H5 l=some (.lst ys)/\ys.length<sizeLine/\N (ys ++ [y]) σ2 (upd H5 l (.lst (ys ++ [y])))
    else H4 l=some (.lst ys)/\N ys σ2 H4)
def zjf(wi:TI)(g:TG)(tc:TT)(te:TE)(src:List (Option Nat)):TE:=λσ H Q=>wi σ H (zcu g tc te src σ Q)
def zkw(g:TG)(tb:TS)(D:Ends)(σ:St)(J:It)(H1:Hp):Prop:=∃W:Nat->Nat->St->Hp->Prop,(∃m,W 0 m σ H1)/\∀i m σ H,W i m σ H->
 (J.stop i H/\D.nx σ H)\/(J.go i H/\∃N:St->Hp->Prop,(∀σ' H',N σ' H'->∃m',m'<m/\W (i+1) m' σ' H')/\∀x H',J.yld i H x H'->g x σ H' λσ2 H2=>tb {D with nx:=N,ct:=N,bk:=D.nx} σ2 H2)
def znD(wi:TI)(g:TG)(tb:TS):TS:=λD σ H=>wi σ H (zkw g tb D σ)
theorem zmG{X:Cx}{tg iter:Expr}{body:List Stmt}{wi:TI}{g:TG}{tb:TS}{pos:Pos}(hp:PassesOwn (model X.prog X.w) X.A X.env X.xe)(hc:X.calm=true)(hi:PI X tg iter wi)(hg:PG X tg g)(hb:PSs X body tb)
 (hs:∀x,foldedSetIterable iter X.env x=pure x:=by intro _;rfl):PS X (.For tg iter body [] pos) (znD wi g tb):=zom hp hc hi hg hb hs
section
variable{X:Cx}{elt tg iter:Expr}{ifs:List Expr}{scope osc:Scope}{pos:Pos}{N':List Str}{src:List (Option Nat)}{wi:TI}{g:TG}{tc:TT}{te:TE}
theorem zm2(ok:CompOk X.N osc N' src scope)(hsc:X.env.scope=osc)(hc:X.calm=true)(hi:PI X tg iter wi)
 (hg:∀cl C s₀ H₀ fp,PG (zy X N' scope cl C s₀ H₀ fp) tg g) (ht:∀cl C s₀ H₀ fp,PIf (zy X N' scope cl C s₀ H₀ fp) ifs tc) (he:∀cl C s₀ H₀ fp,PE (zy X N' scope cl C s₀ H₀ fp) elt te)
 (hs:∀x,foldedSetIterable iter X.env x=pure x:=by intro _;rfl):PE X (.ListComp elt [⟨tg,iter,ifs,0⟩] scope pos) (zjf wi g tc te src):=by
 intro pins s σ H Q I h
 obtain⟨cl,hcl,c1,c2⟩:=zde (scope:=scope) (env:=X.env) λy hy hyf=>I.ok.has y.1 (by
  have z:=ok.frees y hy hyf
  rw[←hsc] at z
  exact z)
 rw[eval_ListComp]
 refine wpAny_comprehension_free (use:=none) rfl hs hcl ok.kind ok.loc (thn (hi pins s σ H _ I h) λv s1 h1=>thn h1 λitv s2 h2=>?_)
 obtain⟨it,fp,tn,J,H2,e,I2,T,st2,f2,q2⟩:=h2
 subst e
 have hlt2:∀b∈fp,b<s2.heap.objs.size:=λb hb=>by
  obtain⟨o,e,_⟩:=T.obj _ _ st2 b hb
  exact Heap.lt_size e
 refine wpAny_newObj_type ?_
 have hl:H2 s2.heap.objs.size=none:=I2.hok.fresh (Nat.le_refl _)
 have I3:Inv X pins σ (upd H2 s2.heap.objs.size (.lst [])) {s2 with heap:=s2.heap.push {cls:= .type "list",dict:=none,data:= .seq ([]:List Value).toArray}}:=
  I2.laid (t':=s2.toks) (λb u e=>Heap.get?_push_of_some _ e) (Nat.le_refl _) ⟨Nat.zero_le _,[],0, .nil,Heap.get?_push_size _ rfl⟩
 obtain⟨W,⟨m0,w0⟩,turn⟩:=q2 _ hl
 generalize hl2:s2.heap.objs.size=l at *
 generalize hs3:({s2 with heap:=s2.heap.push {cls:= .type "list",dict:=none,data:= .seq ([]:List Value).toArray}}:Shared)=s3 at *
 have f3:∀b∈fp,zc5 X pins (upd H2 l (.lst [])) b:=λb hb=>⟨by rw[ze (Nat.ne_of_lt (hlt2 b hb))];exact(f2 b hb).1,(f2 b hb).2⟩
 have k3:∀b o,s2.heap.get? b=some o->s3.heap.get? b=some o:=λb o e=>by rw[←hs3];exact Heap.get?_push_of_some _ e
 have hlt3:∀b∈fp,b<s3.heap.objs.size:=λb hb=>by
  obtain⟨o,e,_⟩:=T.obj _ _ st2 b hb
  exact Heap.lt_size (k3 b o e)
 refine wpAny_newFunctionEnv ok.nocell (by intro y hy;simp at hy) (λh₁ hns₁ hsb₁=>?_) ok.kind
 have k4:∀b o,s3.heap.get? b=some o->h₁.get? b=some o:=λb o e=>(hsb₁.2 b (Nat.ne_of_lt (Heap.lt_size e))).trans (Heap.get?_push_of_some _ e)
 have J0:=zdg (tk:=s3.toks+([]:List (Str×Value)).length) I3 f3 hlt3 ok hsc c1 c2 hns₁ k4
 have st4:tn 0 h₁:=T.keep _ _ _ st2 λb hb o e=>k4 b o (k3 b o e)
 generalize hC:s3.heap.objs.size=C at *
 have stat:∀{H':Hp},(∀b∈fp,H' b=none)->∀b∈fp,zc5 (zy X N' scope cl C s3 (upd H2 l (.lst [])) fp) [] H' b:=λ{H'} hn b hb=>
  ⟨hn b hb,(J0.ok.exf b hb).1,J0.ok.exfs b hb, .inl hb,(J0.ok.exf b hb).2,λp hp=>absurd (show p∈([]:List (Addr×Obj))from hp) (by simp)⟩
 have loop:codeAny (model X.prog X.w) X.A (.compLoop (.ListComp elt [⟨tg,iter,ifs,0⟩] scope pos) 0 (.ref it) (.ref l) (compEnvC scope cl C X.env))
  (compPost (model X.prog X.w) X.A X.xe none (EP X pins σ Q) (.ref l) C) {s3 with heap:=h₁,toks:=s3.toks+([]:List (Str×Value)).length}:=by
  refine zds (λn s'=>∃i ys σ' H',Inv (zy X N' scope cl C s3 (upd H2 l (.lst [])) fp) [] σ' H' s'/\tn i s'.heap/\(∀b∈fp,H' b=none)/\H' l=some (.lst ys)/\W i n ys σ' H') ?_ m0
   ⟨0,[],_,_,J0,st4,λb hb=>(f3 b hb).1,zb,w0⟩
  rintro n s5 ⟨i,ys,σ5,H5,I5,st5,fr5,hl5,w5⟩
  rcases turn i n ys σ5 H5 w5 hl5 with⟨stop,qn⟩|⟨go,N,hN,step⟩
  ·refine thn (T.done (zy X N' scope cl C s3 (upd H2 l (.lst [])) fp) rfl rfl rfl hc i [] s5 σ5 H5 (λ_ _=>False) I5 (stat fr5) st5 stop) λr s6 ⟨hr,I6⟩=>?_
   subst hr
   obtain⟨m,hn,_⟩:=I6.loc
   exact⟨m,hn,λh' hsb=>⟨.ref l,H5,zdn I3 f3 (by rw[←hC];exact Nat.le_refl _) I6 hsb,rfl,qn⟩⟩
  ·refine thn (T.item (zy X N' scope cl C s3 (upd H2 l (.lst [])) fp) rfl rfl rfl hc i [] s5 σ5 H5 (λ_ _=>False) I5 (stat fr5) st5 go) λr s6 ⟨u,hr,h6⟩=>?_
   subst hr
   refine thn h6 λ_ s7 ⟨x,H7,I7,r7,y7,st7,fr7⟩=>?_
   have I7':=I7.pinned (stat fr7) (T.obj _ _ st7)
   refine thn (hg cl C s3 _ fp _ s7 σ5 H7 x u _ I7' r7 (step x H7 y7)) λ_ s8 ⟨σ8,H8,I8,q8⟩=>?_
   refine thn (ht cl C s3 _ fp _ s8 σ8 H8 _ I8 q8) λb s9 ⟨H9,I9,q9⟩=>?_
   have back:∀{s':Shared} {H':Hp},Inv (zy X N' scope cl C s3 (upd H2 l (.lst [])) fp) ([]++zdd fp s7.heap) σ8 H' s'->tn (i+1) s'.heap/\∀b∈fp,H' b=none:=λ{s' H'} I'=>by
    refine⟨T.keep _ _ _ st7 λb hb o e=>(I'.pin (b,o) (List.mem_append_right _ (List.mem_append_right _ (zaf hb e)))).1,λb hb=>?_⟩
    obtain⟨o,e,d⟩:=T.obj _ _ st7 b hb
    exact(I'.pin (b,o) (List.mem_append_right _ (List.mem_append_right _ (zaf hb e)))).2.1
   cases b with
   |false=>
    obtain⟨hl9,n9⟩:=q9
    obtain⟨m',hm,w9⟩:=hN _ _ _ n9
    obtain⟨t9,fr9⟩:=back I9
    exact⟨m',hm,i+1,ys,σ8,H9,I9.unpinned,t9,fr9,hl9,w9⟩
   |true=>
    refine thn (he cl C s3 _ fp _ s9 σ8 H9 _ I9 q9) λxv s10 ⟨y,H10,I10,r10,hl10,hz,n10⟩=>?_
    obtain⟨m',hm,w10⟩:=hN _ _ _ n10
    refine thn (zaD (X:=zy X N' scope cl C s3 (upd H2 l (.lst [])) fp) _ s10 σ8 H10 (.ref l) [y] (.ref l) [xv] (λv H'=>H'=upd H10 l (.lst (ys ++ [y]))) I10 rfl (.cons r10 .nil) ⟨l,ys,y,rfl,rfl,hl10,hz,rfl⟩) λ_ s11 ⟨_,H11,I11,_,e11⟩=>?_
    subst e11
    obtain⟨t11,fr11⟩:=back I11
    exact⟨m',hm,i+1,ys ++ [y],σ8,_,I11.unpinned,t11,fr11,zb,w10⟩
 exact codeAny_compStart_list loop (T.self _ 0 _ _ _ st4 loop)
end
section
variable{κ:Type}[DecidableEq κ]
def zaI(kvs:List (κ×V))(k:κ):Option V:=(kvs.find? λkv=>decide (kv.1=k)).map (·.2)
def zar(kvs:List (κ×V))(k:κ)(v:V):List (κ×V):=
 if(kvs.any λkv=>decide (kv.1=k))=true then kvs.map (λkv=>if kv.1=k then(kv.1,v)else kv)else kvs ++ [(k,v)]
theorem zdv{p:κ×V}{r:List (κ×V)}{k:κ}(e:p.1=k):zaI (p::r) k=some p.2:=by simp[zaI,List.find?_cons,e]
theorem zcI{p:κ×V}{r:List (κ×V)}{k:κ}(e:¬p.1=k):zaI (p::r) k=zaI r k:=by simp[zaI,List.find?_cons,e]
theorem zeM(k:κ):∀kvs:List (κ×V),(kvs.any λkv=>decide (kv.1=k))=(zaI kvs k).isSome
 |[]=>rfl
 |p::r=>by
  rw[List.any_cons]
  by_cases e:p.1=k
  ·simp only[zdv e,decide_eq_true e,Bool.true_or,Option.isSome_some]
  ·rw[zcI e,decide_eq_false e,Bool.false_or];exact zeM k r
theorem zcL(kvs:List (κ×V))(k:κ)(v:V):(zar kvs k v).length<=kvs.length+1:=by
 unfold zar
 split
 ·rw[List.length_map];omega
 ·rw[List.length_append,List.length_cons,List.length_nil];omega
theorem zhp{kvs:List (κ×V)}{k:κ}(v:V)(h:zaI kvs k=none):zar kvs k v=kvs ++ [(k,v)]:=by
 unfold zar
 rw[zeM,h]
 exact if_neg (by decide)
theorem RelO.isSome_eq{o:Option V}{u:Option Value}(r:RelO o u):o.isSome=u.isSome:=by
 cases o with
 |none=>cases u with
  |none=>rfl
  |some _=>exact (show False from r).elim
 |some _=>cases u with
  |none=>exact (show False from r).elim
  |some _=>rfl
theorem KV.val{kvs:List (κ×V)}{vs:List (κ×Value)}(r:KV kvs vs)(k:κ):RelO (zaI kvs k) (valueAt vs k):=by
 unfold KV at r
 induction r with
 |nil=>exact True.intro
 | @cons p q ps qs h t ih=>
   obtain⟨h1,h2⟩:=h
   by_cases e:p.1=k
   ·have e':q.1=k:=h1.symm.trans e
    have b:valueAt (q::qs) k=some q.2:=by simp[valueAt,List.find?_cons,e']
    rw[zdv e,b];exact h2
   ·have e':¬q.1=k:=λz=>e (h1.trans z)
    have b:valueAt (q::qs) k=valueAt qs k:=by simp[valueAt,List.find?_cons,e']
    rw[zcI e,b];exact ih
theorem KV.any{kvs:List (κ×V)}{vs:List (κ×Value)}(r:KV kvs vs)(k:κ):(kvs.any λkv=>decide (kv.1=k))=vs.any λkv=>decide (kv.1=k):=by
 unfold KV at r
 induction r with
 |nil=>rfl
 |cons h t ih=>rw[List.any_cons,List.any_cons,ih,h.1]
theorem KV.repl{kvs:List (κ×V)}{vs:List (κ×Value)}(r:KV kvs vs)(k:κ){y:V}{u:Value}(ry:RelV y u):
 KV (kvs.map λkv=>if kv.1=k then(kv.1,y)else kv) (vs.map λkv=>if kv.1=k then(kv.1,u)else kv):=by
 unfold KV at r⊢
 induction r with
 |nil=>exact .nil
 | @cons p q ps qs h t ih=>
   rw[List.map_cons,List.map_cons]
   refine .cons ?_ ih
   obtain⟨h1,h2⟩:=h
   by_cases e:p.1=k
   ·rw[if_pos e,if_pos (h1.symm.trans e)];exact⟨h1,ry⟩
   ·rw[if_neg e,if_neg (λz=>e (h1.trans z))];exact⟨h1,h2⟩
theorem KV.put{kvs:List (κ×V)}{vs:List (κ×Value)}(r:KV kvs vs)(k:κ){y:V}{u:Value}(ry:RelV y u):KV (zar kvs k y) (stored vs k u):=by
 unfold zar stored
 rw[r.any k]
 by_cases e:(vs.any λkv=>decide (kv.1=k))=true
 ·rw[if_pos e,if_pos e];exact r.repl k ry
 ·rw[if_neg e,if_neg e];exact Paired.snoc r ⟨rfl,ry⟩
theorem KV.length{kvs:List (κ×V)}{vs:List (κ×Value)}(r:KV kvs vs):kvs.length=vs.length:=Paired.length r
end
theorem zi1{P:Program}{w:World}{k:Key}{u:Value}(r:RelV (kV k) u):(zah P w).is k u=true:=by
 cases k with
 |inl i=>obtain ⟨t,e⟩:=(show∃t,u=Value.int i t from r);subst e;exact zgY P w i t
 |inr x=>obtain ⟨t,e⟩:=(show∃t,u=Value.str x t from r);subst e;exact zht P w x t
theorem zfy{P:Program}{w:World}:∀{ks:List Key} {us:List Value},Vals (ks.map kV) us->ItemsAre (zah P w) ks us
 |[],_,r=>by rw[List.map_nil] at r;cases r;exact .nil
 |k::ks,_,r=>by
  rw[List.map_cons] at r
  cases r with
  |cons h t=>exact .cons (zi1 h) (zfy t)
abbrev KT(H:Hp):List (List Key×V)->List (List Key×Addr×Value)->Prop:=Paired λp q=>p.1=q.1/\H q.2.1=some (.tup (p.1.map kV))/\RelV p.2 q.2.2
theorem KT.val{H:Hp}{kvs:List (List Key×V)}{xs:List (List Key×Addr×Value)}(r:KT H kvs xs)(k:List Key):RelO (zaI kvs k) ((atKey xs k).map (·.2)):=by
 induction r with
 |nil=>exact True.intro
 | @cons p q ps qs h t ih=>
   obtain⟨h1,_,h2⟩:=h
   by_cases e:p.1=k
   ·have e':q.1=k:=h1.symm.trans e
    have b:atKey (q::qs) k=some q.2:=by simp[atKey,List.find?_cons,e']
    rw[zdv e,b];exact h2
   ·have e':¬q.1=k:=λz=>e (h1.trans z)
    have b:atKey (q::qs) k=atKey qs k:=by simp[atKey,List.find?_cons,e']
    rw[zcI e,b];exact ih
theorem KT.repl{H:Hp}{kvs:List (List Key×V)}{xs:List (List Key×Addr×Value)}(r:KT H kvs xs)(k:List Key){y:V}{u:Value}(ry:RelV y u):
 KT H (kvs.map λkv=>if kv.1=k then(kv.1,y)else kv) (xs.map (putAt k u)):=by
 induction r with
 |nil=>exact .nil
 | @cons p q ps qs h t ih=>
   rw[List.map_cons,List.map_cons]
   refine .cons ?_ ih
   obtain⟨h1,h2,h3⟩:=h
   unfold putAt
   by_cases e:p.1=k
   ·rw[if_pos e,if_pos (h1.symm.trans e)];exact⟨h1,h2,ry⟩
   ·rw[if_neg e,if_neg (λz=>e (h1.trans z))];exact⟨h1,h2,h3⟩
theorem KT.put{H:Hp}{kvs:List (List Key×V)}{xs:List (List Key×Addr×Value)}(r:KT H kvs xs)(k:List Key){b:Addr}{y:V}{u:Value}(hb:H b=some (.tup (k.map kV)))(ry:RelV y u):
 KT H (zar kvs k y) (storedH xs k b u):=by
 have e:(kvs.any λkv=>decide (kv.1=k))=(atKey xs k).isSome:=by
  rw[zeM,(r.val k).isSome_eq,Option.isSome_map]
 unfold zar storedH
 rw[e]
 by_cases q:(atKey xs k).isSome=true
 ·rw[if_pos q,if_pos q];exact r.repl k ry
 ·rw[if_neg q,if_neg q];exact Paired.snoc r ⟨rfl,hb,ry⟩
theorem KT.keeps{H H':Hp}{kvs:List (List Key×V)}{xs:List (List Key×Addr×Value)}(r:KT H kvs xs)(ht:∀b ys,H b=some (.tup ys)->H' b=some (.tup ys)):KT H' kvs xs:=
 Paired.mapP r λ_ _ z=>⟨z.1,ht _ _ z.2.1,z.2.2⟩
section
variable{P:Program}{w:World}{H:Hp}{h:Heap}{a:Addr}
theorem zny{u:HO}(ok:HOk P w H h)(e:Rd H a u):ObjOk P w H h a u:=e.ok ok
theorem zk4{kvs:List (Key×V)}(ok:HOk P w H h)(e:Rd H a (.dK kvs)):kvs.length<=sizeLine/\(a==sysModules)=false/\∃vs,KV kvs vs/\h.DictOf (zah P w) a vs:=
 show ObjOk P w H h a (.dK kvs)from zny ok e
theorem ziY{kvs:List (Key×V)}(ok:HOk P w H h)(e:H a=some (.dK kvs)):kvs.length<=sizeLine/\(a==sysModules)=false/\∃vs,KV kvs vs/\h.DictOf (zah P w) a vs:=zk4 ok (.inl e)
theorem zfU{ks:List Key}(ok:HOk P w H h)(e:H a=some (.tup (ks.map kV))):(tupleKind (zah P w)).is h ks a:=by
 obtain⟨_,its,r,⟨o,h1,h2,n,h3⟩,_⟩:=(show ObjOk P w H h a (.tup (ks.map kV))from ok a _ e)
 exact⟨o,its.toArray,n,h1,h2,h3,by simpa using zfy r⟩
theorem ziL{kvs:List (List Key×V)}(ok:HOk P w H h)(e:Rd H a (.dT kvs)):kvs.length<=sizeLine/\(a==sysModules)=false/\
 ∃xs,KT H kvs xs/\h.DictOfH (tupleKind (zah P w)) a xs:=by
 obtain⟨z,y,xs,r,o,es,ep,h1,h2,h3,h4,h5⟩:=(show ObjOk P w H h a (.dT kvs)from zny ok e)
 refine⟨z,y,xs,r,o,es,ep,h1,h2,h3,h4,λx hx=>?_,h5⟩
 have all:∀{l:List (List Key×V)} {m:List (List Key×Addr×Value)},KT H l m->∀x∈m,(tupleKind (zah P w)).is h x.1 x.2.1:=by
  intro l m q
  induction q with
  |nil=>intro x hx;exact nomatch hx
  | @cons p q ps qs hq t ih=>
    intro x hx
    rcases List.mem_cons.mp hx with e|hx
    ·subst e
     exact zfU ok (by rw[←hq.1];exact hq.2.1)
    ·exact ih x hx
 exact all r x hx
theorem znx{kvs:List (List Key×V)}(ok:HOk P w H h)(e:H a=some (.dT kvs)):kvs.length<=sizeLine/\(a==sysModules)=false/\
 ∃xs,KT H kvs xs/\h.DictOfH (tupleKind (zah P w)) a xs:=ziL ok (.inl e)
end
def DGet(H:Hp)(a:Addr)(y:V)(r:Option V):Prop:=
 (∃kvs k,Rd H a (.dK kvs)/\y=kV k/\r=zaI kvs k)\/∃kvs k b,Rd H a (.dT kvs)/\y= .ref b/\H b=some (.tup (k.map kV))/\r=zaI kvs k
def DPut(H:Hp)(a:Addr)(y v:V)(H':Hp):Prop:=
 (∃kvs k,H a=some (.dK kvs)/\y=kV k/\kvs.length<sizeLine/\H'=upd H a (.dK (zar kvs k v)))\/
 ∃kvs k b,H a=some (.dT kvs)/\y= .ref b/\H b=some (.tup (k.map kV))/\kvs.length<sizeLine/\H'=upd H a (.dT (zar kvs k v))
theorem DGet.k{H:Hp}{a:Addr}{kvs:List (Key×V)}{k:Key}(e:H a=some (.dK kvs)):DGet H a (kV k) (zaI kvs k):= .inl ⟨kvs,k, .inl e,rfl,rfl⟩
theorem DGet.t{H:Hp}{a b:Addr}{kvs:List (List Key×V)}{k:List Key}(e:H a=some (.dT kvs))(eb:H b=some (.tup (k.map kV))):DGet H a (.ref b) (zaI kvs k):= .inr ⟨kvs,k,b, .inl e,rfl,eb,rfl⟩
theorem DPut.t{H:Hp}{a b:Addr}{kvs:List (List Key×V)}{k:List Key}{v:V}(e:H a=some (.dT kvs))(eb:H b=some (.tup (k.map kV)))(hl:kvs.length<sizeLine):
 DPut H a (.ref b) v (upd H a (.dT (zar kvs k v))):= .inr ⟨kvs,k,b,e,rfl,eb,hl,rfl⟩
section
variable{X:Cx}{pins:List (Addr×Obj)}{σ:St}{H:Hp}{s:Shared}{a:Addr}{y v:V}{u r:Value}{o:Option V}{A:Around}{E:Value->Shared->Prop}
theorem Inv.big(I:Inv X pins σ H s):sysModules<s.heap.objs.size:=by
 have h:mainGlobals<s.heap.objs.size:=(I.mod.glob.keeps I.bk).lt
 exact Nat.lt_trans (by decide) h
theorem zjU{Q:Value->Shared->Prop}(hu:A.units+1<cLine)(I:Inv X pins σ H s)(g:DGet H a y (some v))(ry:RelV y u)(h:∀w' s',Inv X pins σ H s'->RelV v w'->Q w' s'):
 wpAny (model X.prog X.w) A (getItem (.ref a) u) Q E s:=by
 rcases g with⟨kvs,k,e,ey,l⟩|⟨kvs,k,b,e,ey,eb,l⟩
 ·subst ey
  obtain⟨z,hd,vs,rel,dd⟩:=zk4 I.hok e
  obtain⟨w',hw,rw'⟩:=RelO.some_of (v:=v) (o:=valueAt vs k) (by rw[l];exact rel.val k)
  exact wpAny_getItem_of (zi1 ry) dd.mapOf hw (h w' _ (I.tok _) rw')
 ·subst ey
  cases(show u=Value.ref b from ry)
  obtain⟨z,hd,xs,rel,dd⟩:=ziL I.hok e
  obtain⟨w',hw,rw'⟩:=RelO.some_of (v:=v) (o:=(atKey xs k).map (·.2)) (by rw[l];exact rel.val k)
  obtain⟨p,hp,hp2⟩:=Option.map_eq_some_iff.mp hw
  refine wpAny_getItem_heap (tupleKind_room_in1 hu) (zfU I.hok eb) dd hp ?_
  rw[hp2]
  exact h w' _ (I.tok _) rw'
theorem zel{h':Heap}{t':Nat}{ob:HO}(I:Inv X pins σ H s)(mu:Mut (H a))(hs:Heap.SameBut a s.heap h')(he:∃q,h'.get? a=some q)(new:ObjOk X.prog X.w (upd H a ob) h' a ob):
 Inv X pins σ (upd H a ob) {s with heap:=h',toks:=t'}:=
 I.write (x:=a) (e:=a) mu (.inl rfl) (λb q hb z=>(hs.2 b hb).trans z) he new
theorem zkc{P:Program}{w:World}{H':Hp}{h':Heap}{kvs:List (Key×V)}{vs:List (Key×Value)}(z:kvs.length<=sizeLine)(hd:(a==sysModules)=false)(rel:KV kvs vs)(dd:h'.DictOf (zah P w) a vs):
 ObjOk P w H' h' a (.dK kvs):=⟨z,hd,vs,rel,dd⟩
theorem zjE{H':Hp}{Q:Unit->Shared->Prop}(hu:A.units+1<cLine)(I:Inv X pins σ H s)(g:DPut H a y v H')(ry:RelV y u)(rv:RelV v r)(h:∀s',Inv X pins σ H' s'->Q () s'):
 wpAny (model X.prog X.w) A (setItem (.ref a) u r) Q E s:=by
 rcases g with⟨kvs,k,e,ey,l,eH⟩|⟨kvs,k,b,e,ey,eb,l,eH⟩
 ·subst ey eH
  obtain⟨z,hd,vs,rel,dd⟩:=ziY I.hok e
  have hz:vs.length<=sizeLine:=by rw[←rel.length];exact z
  have hl:(zar kvs k v).length<=sizeLine:=by have:=zcL kvs k v;omega
  refine wpAny_setItem_pairs (hsz:=hz) (zi1 ry) dd λh' dd' hs=>h _ ?_
  have he:∃q,h'.get? a=some q:=let⟨q,_,_,hq,_⟩:=dd';⟨q,hq⟩
  exact zel I (by rw[e];exact True.intro) hs he (zkc hl hd (rel.put k rv) dd')
 ·subst ey eH
  cases(show u=Value.ref b from ry)
  obtain⟨z,hd,xs,rel,dd⟩:=znx I.hok e
  have hz:xs.length<=sizeLine:=by rw[←Paired.length rel];exact z
  have hl:(zar kvs k v).length<=sizeLine:=by have:=zcL kvs k v;omega
  refine wpAny_setItem_heap (hsz:=hz) (tupleKind_room_in1 hu) (zfU I.hok eb) dd λh' dd' hs=>h _ ?_
  obtain⟨q,es,ep,hq,h2,h3,h4,_,h5⟩:=dd'
  refine zel I (by rw[e];exact True.intro) hs ⟨q,hq⟩ ⟨hl,hd,_,(rel.put k eb rv).keeps λc ys ec=>?_,q,es,ep,hq,h2,h3,h4,h5⟩
  rw[ze (zaN ec e (λz=>nomatch z))]
  exact ec
end
section
variable{X:Cx}{pins:List (Addr×Obj)}{σ:St}{H:Hp}{s:Shared}{a:Addr}{kvs:List (Key×V)}{k:Key}{u:Value}{A:Around}{E:Value->Shared->Prop}
end
def zn1(i:Expr):Prop:=∀ov iv,subscripted i false ov iv=operate [ov,iv] (getItem ov iv)
theorem znh{prog:Program}{w:World}{A:Around}{E:Value->Shared->Prop}{s:Shared}{env:Env}{value slice:Expr}{pos:Pos}{T id:String}{Q:Value->Shared->Prop}
 (hl:typeLookup (.type T) "__getitem__"=pure (some (.builtin id))) (hs:zn1 slice)
 (h:wpAny (model prog w) A (eval value env) (λo s₁=>wpAny (model prog w) A (eval slice env) (λi s₂=>s₂.TypeIs o T/\wpAny (model prog w) A (getItem o i) Q E s₂) E s₁) E s):
 wpAny (model prog w) A (eval (.Subscript value slice pos) env) Q E s:=by
 refine Subscript_ (wpAny_mono h (λo s₁ h₁=>wpAny_mono h₁ (λi s₂ h₂=>?_) λ_ _ x=>x) λ_ _ x=>x)
 obtain⟨hT,h₂⟩:=h₂
 unfold subscriptTail
 refine wpAny_bind ?_
 rw[getitemInPython_of_ne hT.not_modules]
 refine wpAny_bind (wpAny_specialOf hT hl ?_)
 have fin:wpAny (model prog w) A (subscripted slice false o i) (λr s₃=>wpAny (model prog w) A (letTemporaryGo value o r>>=λ_=>pure r) Q E s₃) E s₂:=by
  rw[hs o i]
  exact wpAny_operating (wpAny_mono h₂ (λr s₃ h₃=>wpAny_bind (wpAny_letTemporaryGo (wpAny_pure h₃))) λ_ _ x=>x)
 first
  |exact wpAny_pure (wpAny_bind fin)
  |exact wpAny_bind (wpAny_pure (wpAny_bind fin))
  |exact wpAny_bind fin
theorem zhv{X:Cx}{pins:List (Addr×Obj)}{σ:St}{H:Hp}{s:Shared}{a:Addr}{y:V}{o:Option V}(I:Inv X pins σ H s)(g:DGet H a y o):s.TypeIs (.ref a) "dict":=by
 rcases g with⟨kvs,k,e,_,_⟩|⟨kvs,k,b,e,_,_,_⟩
 ·obtain ⟨_,_,vs,_,dd⟩:=zk4 I.hok e
  exact dd.typeIs
 ·obtain ⟨_,_,xs,_,dd⟩:=ziL I.hok e
  exact dd.typeIs
def znz(td ty:TE):TE:=λσ H Q=>td σ H λx H1=>ty σ H1 λy H2=>∃a v,x= .ref a/\DGet H2 a y (some v)/\Q v H2
def znM(td ty tv:TE):TS:=λD σ H=>tv σ H λv H1=>td σ H1 λx H2=>ty σ H2 λy H3=>∃a H4,x= .ref a/\DPut H3 a y v H4/\D.nx σ H4
section
variable{X:Cx}{o i e value:Expr}{pos pos' tpos:Pos}{td ty tv:TE}
theorem zni(hu:X.A.units+1<cLine)(ho:PE X o td)(hi:PE X i ty)(hs:zn1 i):PE X (.Subscript o i pos) (znz td ty):=by
 intro pins s σ H Q I h
 refine znh PySem.F.slot_dict_getitem.lookup hs (thn (ho pins s σ H _ I h) λu s1 ⟨x,H1,I1,rx,q1⟩=>thn (hi pins s1 σ H1 _ I1 q1) λiv s2 ⟨y,H2,I2,ry,a,v,ex,g,q2⟩=>?_)
 subst ex
 obtain rfl:u=Value.ref a:=rx
 exact⟨zhv I2 g,zjU hu I2 g ry λw' s3 I3 rw'=>⟨v,H2,I3,rw',q2⟩⟩
theorem zm4(hu:X.A.units+1<cLine)(ho:PE X o td)(hi:PE X i ty)(hv:PE X value tv)(hs:swapsWith value (some (.Subscript o i pos')) pos.line X.env=pure false):
 PS X (.Assign [.Subscript o i pos'] value pos) (znM td ty tv):=by
 intro pins s σ H D I h
 refine wpAny_Assign_Subscript (thn (hv pins s σ H _ I h) λr s1 ⟨v,H1,I1,rv,q1⟩=>thn (ho pins s1 σ H1 _ I1 q1) λu s2 ⟨x,H2,I2,rx,q2⟩=>thn (hi pins s2 σ H2 _ I2 q2) λiv s3 ⟨y,H3,I3,ry,a,H4,ex,g,q3⟩=>?_) hs
 subst ex
 obtain rfl:u=Value.ref a:=rx
 exact zjE hu I3 g ry rv λs4 I4=>⟨σ,H4,I4,q3⟩
end
theorem zlb{P:Program}{w:World}{H:Hp}(h:Heap)(hb:sysModules<h.objs.size):ObjOk P w H (h.push {cls:= .type "dict",data:= .dict #[]}) h.objs.size (.dK []):=
 ⟨Nat.zero_le _,beq_eq_false_iff_ne.mpr (Ne.symm (Nat.ne_of_lt hb)),[], .nil,Heap.DictOf.new h⟩
theorem zho{P:Program}{w:World}{H:Hp}(h:Heap)(hb:sysModules<h.objs.size):ObjOk P w H (h.push {cls:= .type "dict",data:= .dict #[]}) h.objs.size (.dT []):=
 ⟨Nat.zero_le _,beq_eq_false_iff_ne.mpr (Ne.symm (Nat.ne_of_lt hb)),[], .nil,_, #[],0,Heap.get?_push_size _ rfl,⟨rfl,rfl,rfl⟩,rfl,rfl,List.nodup_nil⟩
def zkK:TE:=λ_ H Q=>∀p,H p=none->Q (.ref p) (upd H p (.dT []))
section
variable{X:Cx}{pos:Pos}
theorem zkC:PE X (.Dict [] [] pos) zkK:=λpins s σ H Q I h=>
 wpAny_Dict_empty ⟨.ref s.heap.objs.size,_,I.laid (a:=s.heap.objs.size) (o:= .dT []) (t':=s.toks) (λ_ _ q=>Heap.get?_push_of_some _ q) (Nat.le_refl _) (zho s.heap I.big),rfl,h _ (I.hok.fresh (Nat.le_refl _))⟩
end
def zid:List (TE×TE)->St->Hp->(List (V×V)->Hp->Prop)->Prop
 |[],_,H,Q=>Q [] H
 |(tk,tv)::r,σ,H,Q=>tk σ H λx H1=>tv σ H1 λy H2=>zid r σ H2 λps H3=>Q ((x,y)::ps) H3
abbrev VV:List (V×V)->List (Value×Value)->Prop:=Paired λp q=>RelV p.1 q.1/\RelV p.2 q.2
def PPs(X:Cx)(pos:Pos)(keys:List (Option Expr))(values:List Expr)(trs:List (TE×TE)):Prop:=
 ∀(pins:List (Addr×Obj)) (s:Shared) (σ:St) (H:Hp) (Q:List (V×V)->Hp->Prop),Inv X pins σ H s->zid trs σ H Q->
  wpAny (model X.prog X.w) X.A (evalPairs (pairTrees keys values X.env pos)) (λvs s'=>∃ps H',Inv X pins σ H' s'/\VV ps vs/\Q ps H') X.xe s
theorem zl0{X:Cx}{pos:Pos}:PPs X pos [] [] []:=λpins s σ H Q I h=>pairTrees_nil_walk ⟨[],H,I, .nil,h⟩
theorem zkl{X:Cx}{pos:Pos}{k v:Expr}{ks:List (Option Expr)}{vs:List Expr}{tk tv:TE}{trs:List (TE×TE)}(hk:PE X k tk)(hv:PE X v tv)(hr:PPs X pos ks vs trs):
 PPs X pos (some k::ks) (v::vs) ((tk,tv)::trs):=λpins s σ H Q I h=>
 pairTrees_cons_walk (thn (hk pins s σ H _ I h) λu s1 ⟨x,H1,I1,rx,q1⟩=>thn (hv pins s1 σ H1 _ I1 q1) λw2 s2 ⟨y,H2,I2,ry,q2⟩=>
  thn (hr pins s2 σ H2 _ I2 q2) λws s3 ⟨ps,H3,I3,rel,q3⟩=>⟨(x,y)::ps,H3,I3, .cons ⟨rx,ry⟩ rel,q3⟩)
structure M1(X:Cx)(o:Expr)(m:Str)(apos:Pos)(e:Expr)(cpos:Pos):Prop where
 base:attributeBase o m X.env (eval o X.env)=eval o X.env
 few:((backTo cpos (starEach [e] X.env)).all (λx=>!x.1)&&(backToKw cpos (keywordEach [] X.env)).all (λx=>x.1.isSome)
  &&decide (([e]:List Expr).length+([]:List Keyword).length+(if([]:List Keyword).isEmpty then 0 else 1)<30))=true
 line:(apos.endLine==cpos.line)=true
 trees:backTo cpos (starEach [e] X.env)=[(false,eval e X.env)]
structure M2(X:Cx)(o:Expr)(m:Str)(apos:Pos)(e f:Expr)(cpos:Pos):Prop where
 base:attributeBase o m X.env (eval o X.env)=eval o X.env
 few:((backTo cpos (starEach [e,f] X.env)).all (λx=>!x.1)&&(backToKw cpos (keywordEach [] X.env)).all (λx=>x.1.isSome)
  &&decide (([e,f]:List Expr).length+([]:List Keyword).length+(if([]:List Keyword).isEmpty then 0 else 1)<30))=true
 line:(apos.endLine==cpos.line)=true
 trees:backTo cpos (starEach [e,f] X.env)=[(false,eval e X.env),(false,eval f X.env)]
section
variable{X:Cx}{pins:List (Addr×Obj)}{σ:St}{H:Hp}{s:Shared}{a:Addr}{y d:V}{u r:Value}{o:Option V}{A:Around}{E:Value->Shared->Prop}
end
section
variable{X:Cx}{o e f:Expr}{apos cpos:Pos}{td ty tx:TE}
end
section
variable{X:Cx}{pins:List (Addr×Obj)}{σ:St}{H:Hp}{s:Shared}{a:Addr}{kvs:List (Key×V)}{A:Around}{E:Value->Shared->Prop}
end
section
variable{X:Cx}{pins:List (Addr×Obj)}{σ:St}{H:Hp}{s:Shared}{a:Addr}{y:V}{u:Value}{A:Around}{E:Value->Shared->Prop}
end
section
variable{X:Cx}
theorem zfD:OpR X (compareOp .IsNot) (λx y H Q=>∃i j,x= .bl i/\y= .bl j/\Q (.bl (i !=j)) H):=by
 intro pins s σ H x y v u Q I rx ry h
 obtain⟨i,j,rfl,rfl,q⟩:=h
 cases rx
 cases ry
 exact isnot_bool (zF I q rfl)
theorem zfK:∀{bs:List Bool} {us:List Value} {i:Nat} {v:Value},Vals (bs.map V.bl) us->us[i]?=some v->∃b,bs[i]?=some b/\v= .bool b
 |[],_,_,_, .nil,e=>by simp at e
 |b::bs,_,0,v, .cons r _,e=>by
  simp at e
  subst e
  exact⟨b,rfl,r⟩
 |b::bs,_,i+1,v, .cons _ t,e=>by
  obtain⟨c,h1,h2⟩:=zfK (i:=i) t (by simpa using e)
  exact⟨c,by simpa using h1,h2⟩
def atB(bs:List Bool)(j:Nat):Bool:=match bs[j]? with|some b=>b|none=>true
theorem zgm(bs:List Bool):(List.range bs.length).all (atB bs)=bs.all id:=by
 refine Eq.trans ?_ (PyProof.Rows.all_rangeD bs (id:Bool->Bool))
 congr 1
 funext j
 unfold atB
 cases bs[j]?<;>rfl
theorem zfo{X:Cx}(hc:X.calm=true):CallR X (.builtin "all") (λxs H Q=>∃(p:Addr) (bs:List Bool),xs=[.ref p]/\SqL X.K H p (bs.map V.bl)/\Q (.bl (bs.all id)) H):=by
 intro pins s σ H xs us Q I r h
 obtain⟨p,bs,rfl,hq,q⟩:=h
 obtain⟨u,rfl,ru⟩:=zb6 r
 cases ru
 obtain⟨its,rv,pl,hz⟩:=I.list hq
 have hp:p≠s.heap.objs.size:=Nat.ne_of_lt pl.lt
 refine call_all_walk (wpAny_pyIter_list pl.isList ?_)
 refine⟨s.heap.objs.size,_,_,_,_,_,atB bs,rfl,Walks.list (A:=X.A.in1) (show X.A.in1.handled=none from I.ok.hd hc) _ p hp its.toArray,⟨⟨_,Heap.get?_push_size _ rfl,rfl,rfl⟩,?_⟩,?_,λh' tk hk=>?_⟩
 ·obtain ⟨o,n,e,c,_,d⟩:=pl
  exact⟨o,Heap.get?_push_of_some _ e,c,n,d⟩
 ·intro i v s' Q' E' hP hQ
  obtain⟨b,h1,rfl⟩:=zfK (i:=i) (v:=v) rv (by simpa using hP)
  refine wpAny_truthy_bool ?_
  have e:atB bs i=b:=by unfold atB;rw[h1]
  rw[e] at hQ
  exact hQ
 ·have hl:its.toArray.size=bs.length:=by
   have:=rv.length
   simp at this
   simp[this]
  rw[hl,zgm]
  refine⟨.bl (bs.all id),H,I.kept λb o e=>hk b o ?_ (Heap.get?_push_of_some _ e),rfl,q⟩
  intro z
  have:b=s.heap.objs.size:=by simpa using z
  exact absurd (Heap.lt_size e) (by rw[this];exact Nat.lt_irrefl _)
theorem zbo:∀{ys:List Str} {us:List Value},Vals (ys.map V.str) us->StrsAre us ys
 |[],_, .nil=>by first|exact .nil|trivial
 |y::ys,_, .cons r t=>by
  obtain⟨k,rfl⟩:=r
  first
   |exact .cons _ _ (zbo t)
   |exact .cons (zbo t)
   |exact⟨⟨k,rfl⟩,zbo t⟩
def zeH(z:Str)(n:Nat):Str:=⟨(List.replicate n z.cps).foldl (·++·) #[]⟩
theorem zhN:OpR X (binaryOp .Mult) (λx y H Q=>∃z n,x= .str z/\y= .int n/\1<n/\n<=1000/\0<z.length/\z.length<=1000/\Q (.str (zeH z n.toNat)) H):=by
 intro pins s σ H x y v u Q I rx ry h
 obtain⟨z,n,rfl,rfl,h1,h2,h3,h4,q⟩:=h
 obtain⟨t,rfl⟩:=rx
 obtain⟨t',rfl⟩:=ry
 have e1:¬n<1:=by omega
 have e2:(n==1||z.length==0)=false:=by
  have a:(n==1)=false:=beq_eq_false_iff_ne.mpr (by omega)
  have b:(z.length==0)=false:=beq_eq_false_iff_ne.mpr (by omega)
  rw[a,b];rfl
 have hz:z.length*n.toNat<=1000*1000:=Nat.mul_le_mul h4 (by omega)
 refine PySem.P.mul_str ?_ (λ_ _=>?_) (λ_ _=>?_) ?_
 ·have a:decide (n< -(2^63:Int))=false:=decide_eq_false (by omega)
  have b:decide (n≥2^63)=false:=decide_eq_false (by omega)
  rw[a,b];rfl
 ·have hd:(1000:Int)<=(2^63 -1)/n:=by
   apply Int.le_ediv_of_mul_le (by omega)
   omega
  omega
 ·have hb:z.length*n.toNat<=sizeLine:=Nat.le_trans hz (by decide)
  unfold Builtin.Str.tooLong
  exact decide_eq_false (by omega)
 ·rw[if_neg e1,e2]
  simp only[Bool.false_eq_true,if_false]
  refine⟨?_,⟨.str _,H,I.tok _,⟨_,rfl⟩,q⟩⟩
  have key:∀(k:Nat) (acc:Array Nat),((List.replicate k z.cps).foldl (·++·) acc).size=acc.size+k*z.cps.size:=by
   intro k
   induction k with
   |zero=>intro acc;simp
   |succ k ih=>intro acc;rw[List.replicate_succ,List.foldl_cons,ih,Array.size_append,Nat.succ_mul];omega
  have hk:=key n.toNat #[]
  have hz':n.toNat *z.cps.size<=1000*1000:=Nat.mul_le_mul (by omega) h4
  have hsl:1000*1000<=sizeLine:=by decide
  show((List.replicate n.toNat z.cps).foldl (·++·) #[]).size<=sizeLine
  rw[hk]
  simp only[Array.size_empty]
  omega
theorem zbs:bootBuiltins "len"=some (.builtin "len"):=by decide +kernel
theorem zk3:bootBuiltins "all"=some (.builtin "all"):=by decide +kernel
theorem zoj:bootBuiltins "any"=some (.builtin "any"):=by decide +kernel
theorem ziq:bootBuiltins "max"=some (.builtin "max"):=by decide +kernel
theorem zf6:bootBuiltins "min"=some (.builtin "min"):=by decide +kernel
theorem zce:bootBuiltins "sorted"=some (.builtin "sorted"):=by decide +kernel
theorem zfQ:bootBuiltins "int"=some (.type "int"):=by decide +kernel
theorem zax:bootBuiltins "tuple"=some (.type "tuple"):=by decide +kernel
theorem few{α:Type}{xs:List α}(h:Nat.ble xs.length 1000=true):xs.length<=sizeLine:=Nat.le_of_lt (zn (Nat.le_of_ble_eq_true h))
def zdM:Expr->Option V
 | .Constant (.str x) _ _=>some (.str x)
 | .Constant (.int i) _ _=>some (.int i)
 | .Constant (.bool b) _ _=>some (.bl b)
 | .Constant .none _ _=>some .non
 |_=>none
theorem zkt{e:Expr}{v:V}(h:zdM e=some v):PE X e (tC v)/\∀es,starEach (e::es) X.env=(false,eval e X.env)::starEach es X.env:=by
 cases e with
 |Constant c j pos=>
  cases c with
  |str x=>cases h;exact⟨zlv,λ_=>rfl⟩
  |int x=>cases h;exact⟨zkX,λ_=>rfl⟩
  |bool x=>cases h;exact⟨znI,λ_=>rfl⟩
  |none=>cases h;exact⟨zlM,λ_=>rfl⟩
  |_=>cases h
 |_=>cases h
def zqa(vs:List V):TA:=λ_ H Q=>Q vs H
theorem zdy:∀{es:List Expr} {vs:List V},es.mapM zdM=some vs->PA X es (zqa vs)
 |[],vs,h=>by
  have e:vs=[]:=by simpa using h.symm
  subst e
  exact zlE
 |e::es,vs,h=>by
  rw[List.mapM_cons] at h
  cases h1:zdM e with
  |none=>rw[h1] at h;cases h
  |some v=>
   rw[h1] at h
   cases h2:es.mapM zdM with
   |none=>rw[h2] at h;cases h
   |some us=>
    rw[h2] at h
    have e1:v::us=vs:=Option.some.inj h
    subst e1
    obtain⟨p,st⟩:=zkt (X:=X) h1
    have q:=ziK p (zdy (es:=es) h2) (st es)
    exact q
def znS(vs:List V):TE:=λ_ H Q=>vs.length<=sizeLine/\∀p,H p=none->Q (.ref p) (upd H p (.lst vs))
theorem zmF(vs:List V){es:List Expr}{pos:Pos}(h:es.mapM zdM=some vs):PE X (.List es pos) (znS vs):=zld (zdy h)
end
structure Wk(J:It)(n:Nat)(P:Nat->V->Prop)(ok:Hp->Prop):Prop where
 stop:∀i H,ok H->n<=i->J.stop i H
 go:∀i H,ok H->i<n->J.go i H
 yld:∀i H x H',ok H->i<n->J.yld i H x H'->H'=H/\P i x
theorem zcT{K:PySem.W.Frag}{a:Addr}{xs:List V}:Wk (Itl K a) xs.length (λi x=>xs[i]?=some x) (λH=>SqL K H a xs) where
 stop:=λi H h l=>⟨xs,h,l⟩
 go:=λi H h l=>⟨xs,xs[i],h,by simp[l]⟩
 yld:=λi H x H' h l y=>⟨y.1,y.2 xs h⟩
theorem zaU{K:PySem.W.Frag}{a:Addr}{xs:List V}:Wk (Itt K a) xs.length (λi x=>xs[i]?=some x) (λH=>SqT K H a xs) where
 stop:=λi H h l=>⟨xs,h,l⟩
 go:=λi H h l=>⟨xs,xs[i],h,by simp[l]⟩
 yld:=λi H x H' h l y=>⟨y.1,y.2 xs h⟩
theorem zcA{lo:Int}{n:Nat}:Wk (Itr lo n) n (λi x=>x= .int (lo+i)) (λ_=>True) where
 stop:=λi H h l=>l
 go:=λi H h l=>l
 yld:=λi H x H' h l y=>y
theorem zba{J:It}{n:Nat}{P:Nat->V->Prop}{ok:Hp->Prop}{g:TG}{tc:TT}{te:TE}{src:List (Option Nat)}{σ:St}{H1:Hp}{Q:VK}(wk:Wk J n P ok)(Pv:Addr->Nat->List V->St->Hp->Prop)
 (h0:∀l,H1 l=none->Pv l 0 [] (zdk src σ) (upd H1 l (.lst []))) (hok:∀l i ys σ H,H1 l=none->Pv l i ys σ H->ok H)
 (hs:∀l i x ys σ H,H1 l=none->i<n->P i x->Pv l i ys σ H->H l=some (.lst ys)->g x σ H λσ2 H3=>tc σ2 H3 λb H4=>
   if b=true then te σ2 H4 λy H5=>H5 l=some (.lst ys)/\ys.length<sizeLine/\Pv l (i+1) (ys ++ [y]) σ2 (upd H5 l (.lst (ys ++ [y])))else H4 l=some (.lst ys)/\Pv l (i+1) ys σ2 H4)
 (hd:∀l ys σ H,H1 l=none->Pv l n ys σ H->H l=some (.lst ys)->Q (.ref l) H):
 zcu g tc te src σ Q J H1:=by
 intro l hl
 refine⟨λi m ys σ H=>m=n -i/\i<=n/\Pv l i ys σ H,⟨n,by simp,Nat.zero_le _,h0 l hl⟩,?_⟩
 rintro i m ys σ' H' ⟨rfl,hi,p⟩ hl'
 by_cases hlt:i<n
 ·refine .inr ⟨wk.go i H' (hok l i ys σ' H' hl p) hlt,Pv l (i+1),λzs σ2 H2 q=>⟨n -(i+1),by omega,rfl,hlt,q⟩,λx H2 y=>?_⟩
  obtain⟨rfl,px⟩:=wk.yld i H' x H2 (hok l i ys σ' H' hl p) hlt y
  exact hs l i x ys σ' _ hl hlt px p hl'
 ·have e:i=n:=by omega
  subst e
  exact .inl ⟨wk.stop _ _ (hok l _ ys σ' H' hl p) (Nat.le_refl _),hd l ys σ' H' hl p hl'⟩
theorem za9{J:It}{n:Nat}{P:Nat->V->Prop}{ok:Hp->Prop}{g:TG}{tb:TS}{D:Ends}{σ:St}{H:Hp}(wk:Wk J n P ok)(Pv:Nat->St->Hp->Prop)(h0:Pv 0 σ H)(hok:∀i σ H,Pv i σ H->ok H)
 (hs:∀i x σ H,i<n->P i x->Pv i σ H->g x σ H λσ2 H2=>tb {D with nx:=Pv (i+1),ct:=Pv (i+1),bk:=D.nx} σ2 H2) (hd:∀σ H,Pv n σ H->D.nx σ H):
 zkw g tb D σ J H:=by
 refine⟨λi m σ H=>m=n -i/\i<=n/\Pv i σ H,⟨n,by simp,Nat.zero_le _,h0⟩,?_⟩
 rintro i m σ H ⟨rfl,hi,p⟩
 by_cases hlt:i<n
 ·refine .inr ⟨wk.go i H (hok i σ H p) hlt,Pv (i+1),λσ' H' q=>⟨n -(i+1),by omega,rfl,hlt,q⟩,λx H' y=>?_⟩
  obtain⟨rfl,px⟩:=wk.yld i H x H' (hok i σ H p) hlt y
  exact hs i x σ _ hlt px p
 ·have e:i=n:=by omega
  subst e
  exact .inl ⟨wk.stop _ _ (hok _ σ H p) (Nat.le_refl _),hd σ H p⟩
structure QE(X:Cx)(e:Expr)(t:TE):Prop where o:PE X e t
structure QT(X:Cx)(e:Expr)(t:TT):Prop where o:PT X e t
structure QW(X:Cx)(e:Expr)(t:TT):Prop where o:PW X e t
structure QA(X:Cx)(es:List Expr)(t:TA):Prop where o:PA X es t
structure QS(X:Cx)(s:Stmt)(t:TS):Prop where o:PS X s t
structure QB(X:Cx)(s:List Stmt)(t:TS):Prop where o:PSs X s t
structure QI(X:Cx)(tg iter:Expr)(t:TI):Prop where o:PI X tg iter t
structure QG(X:Cx)(tg:Expr)(t:TG):Prop where o:PG X tg t
structure QGs(X:Cx)(tg:List Expr)(t:TGs):Prop where o:PGs X tg t
structure QF(X:Cx)(ifs:List Expr)(t:TT):Prop where o:PIf X ifs t
structure QO(X:Cx)(e:Option Expr)(t:TO):Prop where o:PO X e t
structure QPs(X:Cx)(pos:Pos)(keys:List (Option Expr))(values:List Expr)(trs:List (TE×TE)):Prop where o:PPs X pos keys values trs
section
variable{X:Cx}{a b c e o i:Expr}{es:List Expr}{ta tb tc te to ti:TE}{t u:TA}{pos p apos cpos:Pos}{j:Nat}{x:Str}{sa sb:TS}{q q':TT}{rest:List Expr}
theorem qv(i:Nat){x:Str}{pos:Pos}(hN:X.N[i]?=some x:=by rfl)(hv:Vis X.env.scope x:=by exact Or.inl rfl)(hd:(x==("__debug__":Str))=false:=by decide)
 (hcd:(x==("__classdict__":Str))=false:=by decide):QE X (.Name x pos) (zmN i):=⟨zln hN hv hd hcd⟩
theorem qc(i:Nat){x:Str}{pos:Pos}(hN:X.N[i]?=some x:=by rfl)(hv:X.env.scope.names.lookup x=some .cell:=by rfl)(hd:(x==("__debug__":Str))=false:=by decide)
 (hcd:(x==("__classdict__":Str))=false:=by decide):QE X (.Name x pos) (zmN i):=⟨zln hN (.inr (.inl hv)) hd hcd⟩
theorem zf{k:Int}:QE X (.Constant (.int k) j pos) (tC (.int k)):=⟨zkX⟩
theorem zav{k:Str}:QE X (.Constant (.str k) j pos) (tC (.str k)):=⟨zlv⟩
theorem zcb{k:Bool}:QE X (.Constant (.bool k) j pos) (tC (.bl k)):=⟨znI⟩
theorem zcz:QE X (.Constant .none j pos) (tC .non):=⟨zlM⟩
theorem zoB{v:V}{u:Value}(hm:X.mg x=some u)(r:RelV v u)(hg:Gl X x:=by rfl)(hd:(x==("__debug__":Str))=false:=by decide):QE X (.Name x pos) (tC v):=⟨zmT hg hm r hd⟩
theorem zJ{op:Operator}{r:R2}(ho:OpR X (binaryOp op) r)(ha:QE X a ta)(hb:QE X b tb):QE X (.BinOp a op b pos) (tOp r ta tb):=⟨zpS ho ha.o hb.o⟩
theorem zju{op:UnaryOp}{r:V->Hp->VK->Prop}(ho:UnR X (unaryOp op) r)(ha:QE X a ta):QE X (.UnaryOp op a pos) (tUn r ta):=⟨zpX ho ha.o⟩
theorem zb5{op:CmpOp}{r:R2}(ho:OpR X (compareOp op) r)(ha:QE X a ta)(hb:QE X b tb)(hm:behindInMarks op b=false:=by rfl):QE X (.Compare a [op] [b] pos) (tOp r ta tb):=⟨znm ho ha.o hb.o hm⟩
theorem zI{op:CmpOp}{r:R2}(ho:OpR X (compareOp op) r)(ha:QE X a ta)(hb:QE X b tb)(hm:behindInMarks op b=false:=by rfl):QT X (.Compare a [op] [b] pos) (znJ (tOp r ta tb)):=⟨zmd ho ha.o hb.o hm⟩
theorem zpp{op:BoolOp}(h:QE X a ta):QE X (.BoolOp op [a] pos) ta:=⟨zot h.o⟩
theorem zpk(ha:QE X a ta)(hb:QE X (.BoolOp .And (b::rest) pos) tb):QE X (.BoolOp .And (a::b::rest) pos) (znV ta tb):=⟨zn7 ha.o hb.o⟩
theorem zpv(ha:QE X a ta):QE X (.UnaryOp .Not a pos) (znG ta):=⟨zou ha.o⟩
theorem zpd(hc:QT X c q)(ha:QE X a ta)(hb:QE X b tb):QE X (.IfExp c a b pos) (tIf q ta tb):=⟨zlI hc.o ha.o hb.o⟩
theorem zow(ha:QT X a q):QW X (.BoolOp .And [a] pos) q:=⟨znl ha.o⟩
theorem ziC(ha:QT X a q):QW X (.BoolOp .Or [a] pos) q:=⟨zoD ha.o⟩
theorem zpn(ha:QT X a q)(hb:QW X (.BoolOp .And (b::rest) pos) q'):QW X (.BoolOp .And (a::b::rest) pos) (zpA q q'):=⟨zoP ha.o hb.o⟩
theorem zmQ(ha:QT X a q)(hb:QW X (.BoolOp .Or (b::rest) pos) q'):QW X (.BoolOp .Or (a::b::rest) pos) (tOr q q'):=⟨zpM ha.o hb.o⟩
theorem t_w(h:QW X a q):QT X a q:=⟨h.o.pt⟩
theorem zfq(ha:QT X a q):QT X (.UnaryOp .Not a pos) (zpH q):=⟨zog ha.o⟩
theorem zeW(h:QE X e te)(he:∀whole,isTrue e X.env whole=(do let v ←whole;standAt e.pos;holding [v] (truthy v)):=by intro _;rfl):QT X e (tB te):=⟨zoN h.o he⟩
theorem zmk(h:QE X e te)(he:∀whole,isTrue e X.env whole=(do let v ←whole;standAt e.pos;holding [v] (truthy v)):=by intro _;rfl):QT X e (λσ H Q=>te σ H λx H'=>∃k,znZ X.K x H' k/\Q k H'):=⟨zlt h.o he⟩
theorem zc:QA X [] zob:=⟨zlE⟩
theorem za(ha:QE X e te)(hr:QA X es t)(hs:starEach (e::es) X.env=(false,eval e X.env)::starEach es X.env:=by rfl):QA X (e::es) (zi7 te t):=⟨ziK ha.o hr.o hs⟩
theorem zD{k:Nat}(h:QA X es t):QE X (.Tuple es k pos) (zpB t):=⟨zoE h.o⟩
theorem zbN(h:QA X es t):QE X (.List es pos) (zoT t):=⟨zld h.o⟩
theorem zev(vs:List V)(h:es.mapM zdM=some vs):QE X (.List es pos) (znS vs):=⟨zmF vs h⟩
theorem zj{CX:CXT}{k:Nat}{f:Addr}{fd:FuncData}{ps:List Str}{sp:Sp}{dvs:List V}{ds:List Value}{E:XK}(F:FnOk X.prog X.w X.K X.mg X.base CX k f fd ps sp)(hr:Room k X.A)(hm:X.mg x=some (.ref f))(hk:PySem.W.keepIn X.K (.ref f)=true)(hb:Binds X.K fd ps ds)(hd:Vals dvs ds)(hx:zf1 CX X E)
 (ha:QA X (e::es) t) (hg:Gl X x:=by rfl) (hdb:(x==("__debug__":Str))=false:=by decide) (he:starEach (e::es) X.env=(false,eval e X.env)::starEach es X.env:=by rfl) (hpl:(backTo pos (starEach es X.env)).any (·.1)=false:=by rfl):
 QE X (.Call (.Name x p) (e::es) [] pos) (znB sp dvs E t):=⟨zmy F hr hg hm hk hb hd hx ha.o hdb he hpl⟩
theorem zz{id:String}{r:List V->Hp->VK->Prop}(hc:CallR X (.builtin id) r)(hm:X.mg x=none)(hv:bootBuiltins x=some (.builtin id))(ha:QA X (e::es) t)(hg:Gl X x:=by rfl)(hn:x≠"__name__":=by decide)(hdb:(x==("__debug__":Str))=false:=by decide)
 (he:starEach (e::es) X.env=(false,eval e X.env)::starEach es X.env:=by rfl) (hpl:(backTo pos (starEach es X.env)).any (·.1)=false:=by rfl):QE X (.Call (.Name x p) (e::es) [] pos) (tCB r t):=⟨zky hc hg hm hv ha.o hn hdb he hpl⟩
theorem zX{T:String}{r:List V->Hp->VK->Prop}(hc:CallR X (.type T) r)(hm:X.mg x=none)(hv:bootBuiltins x=some (.type T))(ha:QA X (e::es) t)(hg:Gl X x:=by rfl)(hn:x≠"__name__":=by decide)(hdb:(x==("__debug__":Str))=false:=by decide)
 (he:starEach (e::es) X.env=(false,eval e X.env)::starEach es X.env:=by rfl) (hpl:(backTo pos (starEach es X.env)).any (·.1)=false:=by rfl):QE X (.Call (.Name x p) (e::es) [] pos) (tCB r t):=⟨zji hc hg hm hv ha.o hn hdb he hpl⟩
theorem zT{r:R2}(hr:IxR X r)(ha:QE X a ta)(hb:QE X b tb)(hs:ziO b:=by exact λ_ _=>rfl):QE X (.Subscript a b pos) (tOp r ta tb):=⟨zpO hr ha.o hb.o hs⟩
theorem zaQ:QO X none zen:=⟨zmX⟩
theorem zaO(h:QE X e te):QO X (some e) (znR te):=⟨zl4 h.o⟩
theorem zc3{r:V->Option Int->Option Int->Hp->VK->Prop}{lo hi:Option Expr}{tl th:TO}(hr:SlR X r)(he:QE X e te)(hl:QO X lo tl)(hu:QO X hi th):QE X (.Subscript e (.Slice lo hi none p) pos) (tSl r te tl th):=⟨zk5 hr he.o hl.o hu.o⟩
theorem zgk{T id:String}{name:Str}{r:V->List V->Hp->VK->Prop}(pa:PlainAttrs T)(slot:Slot T name id)(hty:typeOf (.builtin id)=pure (.type "method_descriptor"))(hm:MtR X id r)(ho:QE X o to)(ha:QA X (e::es) t)
 (hbase:attributeBase o name X.env (eval o X.env)=eval o X.env:=by rfl)
 (hfew:((backTo cpos (starEach (e::es) X.env)).all (λx=>!x.1)&&(backToKw cpos (keywordEach [] X.env)).all (λx=>x.1.isSome)
   &&decide ((e::es).length+([]:List Keyword).length+(if([]:List Keyword).isEmpty then 0 else 1)<30))=true:=by rfl)
 (hline:(apos.endLine==cpos.line)=true:=by rfl) (hs:starEach (e::es) X.env=(false,eval e X.env)::starEach es X.env:=by rfl) (hplain:(backTo cpos (starEach es X.env)).any (·.1)=false:=by rfl):
 QE X (.Call (.Attribute o name apos) (e::es) [] cpos) (tBM X.K T r to t):=⟨zpu pa slot hty hm ho.o ha.o hbase hfew hline hs hplain⟩
theorem zo2:QPs X pos [] [] []:=⟨zl0⟩
theorem zpm{ks:List (Option Expr)}{vs:List Expr}{trs:List (TE×TE)}(hk:QE X a ta)(hv:QE X b tb)(hr:QPs X pos ks vs trs):QPs X pos (some a::ks) (b::vs) ((ta,tb)::trs):=⟨zkl hk.o hv.o hr.o⟩
theorem zcn{tg:Expr}(h:QE X e te):QI X tg e (znP X.K te):=⟨znn h.o⟩
theorem zbY{tg:Expr}(h:QE X e te):QI X tg e (zpq X.K te):=⟨zok h.o⟩
theorem zdi{tg:Expr}(hm:X.mg "range"=none)(ha:QA X [a] t)(hg:Gl X "range":=by rfl)(hs:starEach [a] X.env=[(false,eval a X.env)]:=by rfl):QI X tg (.Call (.Name "range" p) [a] [] pos) (znC t):=⟨zj6 hg hm ha.o hs⟩
theorem zo8{tg:Expr}(hm:X.mg "range"=none)(ha:QA X [a,b] t)(hg:Gl X "range":=by rfl)(hs:starEach [a,b] X.env=[(false,eval a X.env),(false,eval b X.env)]:=by rfl)(hs2:starEach [b] X.env=[(false,eval b X.env)]:=by rfl):QI X tg (.Call (.Name "range" p) [a,b] [] pos) (znF t):=⟨zjw hg hm ha.o hs hs2⟩
theorem zt(k:Nat)(hN:X.N.Nodup)(hi:X.N[k]?=some x:=by rfl)(hx:X.env.scope.names.lookup x=some .local:=by rfl):QG X (.Name x pos) (zbi k):=⟨ziM hN hi (.inl hx) (.inr hx)⟩
theorem zbK:QGs X [] zpy:=⟨zmb⟩
theorem zH{tg:TG}{tgs:TGs}(h1:QG X e tg)(h2:QGs X es tgs)(hs:(assignEach (e::es) X.env).map (·.2)=assign e X.env::(assignEach es X.env).map (·.2):=by rfl):QGs X (e::es) (znA tg tgs):=⟨zka h1.o h2.o hs⟩
theorem zda(n:Nat){k:Nat}{tgs:TGs}(hc:X.calm=true)(h:QGs X es tgs)(hn:(assignEach es X.env).length=n:=by rfl)(hst:(assignEach es X.env).findIdx? (·.1)=none:=by rfl):QG X (.Tuple es k pos) (zoq X.K n tgs):=⟨zon hc h.o hn hst⟩
theorem zbW:QF X [] zjO:=⟨zl6⟩
theorem zhr(h:QT X c q):QF X [c] q:=⟨znv h.o⟩
theorem zS:QB X [] znE:=⟨zns⟩
theorem zg{st:Stmt}{sts:List Stmt}(h1:QS X st sa)(h2:QB X sts sb):QB X (st::sts) (zpG sa sb):=⟨zhi h1.o h2.o⟩
theorem zm{st:Stmt}(h1:QS X st sa):QB X [st] sa:=⟨zng h1.o⟩
theorem zas{A B:List Stmt}(hc:QT X c q)(ha:QB X A sa)(hb:QB X B sb):QS X (.If c A B pos) (zpI q sa sb):=⟨zpt hc.o ha.o hb.o⟩
theorem zx(h:QE X e te):QS X (.Return (some e) pos) (zpo te):=⟨zpa h.o⟩
theorem zdc(he:QE X e te)(hs:swapsWith e none pos.line X.env=pure false:=by rfl):QS X (.Expr e pos) (znU te):=⟨zmh he.o hs⟩
theorem zkT:QS X (.Continue pos) znT:=⟨zgO⟩
theorem zB(k:Nat){pos':Pos}(hN:X.N.Nodup)(he:QE X e te)(hi:X.N[k]?=some x:=by rfl)(hx:X.env.scope.names.lookup x=some .local:=by rfl)(hs:swapsWith e (some (.Name x pos')) pos.line X.env=pure false:=by rfl):
 QS X (.Assign [.Name x pos'] e pos) (zij te (zbi k)):=⟨zkb hN hi (.inl hx) he.o hs (.inr hx)⟩
theorem zcm(k:Nat){pos':Pos}(hN:X.N.Nodup)(he:QE X e te)(hi:X.N[k]?=some x:=by rfl)(hx:X.env.scope.names.lookup x=some .cell:=by rfl)(hf:X.fn x=true:=by rfl)(hs:swapsWith e (some (.Name x pos')) pos.line X.env=pure false:=by rfl):
 QS X (.Assign [.Name x pos'] e pos) (zij te (zbi k)):=⟨zkb hN hi (.inr hx) he.o hs (.inl hf)⟩
theorem zbx{tg iter:Expr}{body:List Stmt}{wi:TI}{g:TG}(hp:PassesOwn (model X.prog X.w) X.A X.env X.xe)(hc:X.calm=true)(hi:QI X tg iter wi)(hg:QG X tg g)(hb:QB X body sa)
 (hs:∀x,foldedSetIterable iter X.env x=pure x:=by intro _;rfl):QS X (.For tg iter body [] pos) (znD wi g sa):=⟨zmG hp hc hi.o hg.o hb.o hs⟩
end
section
variable{X:Cx}{elt tg iter:Expr}{ifs:List Expr}{scope osc:Scope}{pos:Pos}{N':List Str}{src:List (Option Nat)}{wi:TI}{g:TG}{tc:TT}{te:TE}
theorem zaT(ok:CompOk X.N osc N' src scope)(hsc:X.env.scope=osc)(hc:X.calm=true)(hi:QI X tg iter wi)
 (hg:∀cl C s₀ H₀ fp,QG (zy X N' scope cl C s₀ H₀ fp) tg g) (ht:∀cl C s₀ H₀ fp,QF (zy X N' scope cl C s₀ H₀ fp) ifs tc) (he:∀cl C s₀ H₀ fp,QE (zy X N' scope cl C s₀ H₀ fp) elt te)
 (hs:∀x,foldedSetIterable iter X.env x=pure x:=by intro _;rfl):QE X (.ListComp elt [⟨tg,iter,ifs,0⟩] scope pos) (zjf wi g tc te src):=
 ⟨zm2 ok hsc hc hi.o (λcl C s₀ H₀ fp=>(hg cl C s₀ H₀ fp).o) (λcl C s₀ H₀ fp=>(ht cl C s₀ H₀ fp).o) (λcl C s₀ H₀ fp=>(he cl C s₀ H₀ fp).o) hs⟩
end
theorem Fun.okQ{P:Program}{w:World}{K:PySem.W.Frag}{mg:Str->Option Value}{base:Heap}{x qual:Str}{st:Stmt}{f:Addr}{fd:FuncData}{N ps:List Str}{k:Nat}{sp:Sp}(F:Fun K x qual st f fd)(S:FnScope N ps (zd st))(len:∀vs H Q E,sp vs H Q E->vs.length=ps.length)
 (hbody:∀(cdv:Value) (A:Around) (outer:List Env) (s:Shared) (H:Hp) (vs:List V) (Q:VK) (E:XK),Room k (A.deeper (envOfC qual (zd st) s.heap.objs.size f cdv))->sp vs H Q E->
   ∃t,QB (zgL CX0 P w K mg base N qual (zd st) f cdv A outer s H E).nox (zp st) t/\t {nx:=λ_ H'=>Q .non H',rt:=Q} (start N vs) H):FnOk P w K mg base CX0 (k+1) f fd ps sp:=
 F.ok S len λcdv A outer s H vs Q E hr h=>let ⟨t,a,b⟩:=hbody cdv A outer s H vs Q E hr h;⟨t,a.o,b⟩
theorem zoU{h:Heap}{a:Addr}{m:Str->Option Value}(hn:h.Ns a m):∃o,h.get? a=some o/\∀v,o.data≠ .cell v:=
 let⟨o,es,ep,e,d,_⟩:=hn;⟨o,e,λv z=>by rw[d] at z;cases z⟩
theorem znq{h h':Heap}{a:Addr}{m:Str->Option Value}{o:Obj}(hn:h.Ns a m)(e:h.get? a=some o)(e':h'.get? a=some o):h'.Ns a m:=by
 obtain⟨o',es,ep,e1,r⟩:=hn
 rw[e] at e1
 cases e1
 exact⟨o,es,ep,e',r⟩
section
variable{X:Cx}{elt tg iter:Expr}{ifs:List Expr}{scope osc:Scope}{pos:Pos}{N':List Str}{src:List (Option Nat)}{wi:TI}{g:TG}{tc:TT}{te:TE}{y:Str}{py spos:Pos}{k:Nat}
theorem zio(ok:CompOk X.N osc N' src scope)(hsc:X.env.scope=osc)(hc:X.calm=true)(hi:PI X tg iter wi)
 (hg:∀cl C s₀ H₀ fp,PG (zy X N' scope cl C s₀ H₀ fp) tg g) (ht:∀cl C s₀ H₀ fp,PIf (zy X N' scope cl C s₀ H₀ fp) ifs tc) (he:∀cl C s₀ H₀ fp,PE (zy X N' scope cl C s₀ H₀ fp) elt te)
 (hN:X.N.Nodup) (hk:X.N[k]?=some y) (hx:X.env.scope.names.lookup y=some .local) (hsw:swapsWith (.ListComp elt [⟨tg,iter,ifs,0⟩] scope pos) (some (.Name y py)) spos.line X.env=pure true)
 (hs:∀x,foldedSetIterable iter X.env x=pure x:=by intro _;rfl):PS X (.Assign [.Name y py] (.ListComp elt [⟨tg,iter,ifs,0⟩] scope pos) spos) (zij (zjf wi g tc te src) (zbi k)):=by
 intro pins s σ H D I h
 obtain⟨cl,hcl,c1,c2⟩:=zde (scope:=scope) (env:=X.env) λy hy hyf=>I.ok.has y.1 (by
  have z:=ok.frees y hy hyf
  rw[←hsc] at z
  exact z)
 rw[exec_Assign_Name_used _ _ _ _ hsw]
 refine wpAny_bind (wpAny_standAt (wpAny_bind ?_))
 show wpAny _ X.A (do let _ ←comprehension (.ListComp elt [⟨tg,iter,ifs,0⟩] scope pos) scope X.env _ (newList []) false (eval iter X.env) (some (assign (.Name y py) X.env))) _ _ s
 refine wpAny_bind (wpAny_mono (wpAny_comprehension_free (use:=some (assign (.Name y py) X.env)) (Q:=λ_ s'=>∃σ' H',Inv X pins σ' H' s'/\D.nx σ' H') rfl hs hcl ok.kind ok.loc
  (thn (hi pins s σ H _ I h) λv s1 h1=>thn h1 λitv s2 h2=>?_)) (λ_ s' hq=>wpAny_pure (wpAny_pure hq)) λ_ _ e=>e)
 obtain⟨it,fp,tn,J,H2,e,I2,T,st2,f2,q2⟩:=h2
 subst e
 have hlt2:∀b∈fp,b<s2.heap.objs.size:=λb hb=>by
  obtain⟨o,e,_⟩:=T.obj _ _ st2 b hb
  exact Heap.lt_size e
 refine wpAny_newObj_type ?_
 have hl:H2 s2.heap.objs.size=none:=I2.hok.fresh (Nat.le_refl _)
 have I3:Inv X pins σ (upd H2 s2.heap.objs.size (.lst [])) {s2 with heap:=s2.heap.push {cls:= .type "list",dict:=none,data:= .seq ([]:List Value).toArray}}:=
  I2.laid (t':=s2.toks) (λb u e=>Heap.get?_push_of_some _ e) (Nat.le_refl _) ⟨Nat.zero_le _,[],0, .nil,Heap.get?_push_size _ rfl⟩
 obtain⟨W,⟨m0,w0⟩,turn⟩:=q2 _ hl
 generalize hl2:s2.heap.objs.size=l at *
 generalize hs3:({s2 with heap:=s2.heap.push {cls:= .type "list",dict:=none,data:= .seq ([]:List Value).toArray}}:Shared)=s3 at *
 have f3:∀b∈fp,zc5 X pins (upd H2 l (.lst [])) b:=λb hb=>⟨by rw[ze (Nat.ne_of_lt (hlt2 b hb))];exact(f2 b hb).1,(f2 b hb).2⟩
 have k3:∀b o,s2.heap.get? b=some o->s3.heap.get? b=some o:=λb o e=>by rw[←hs3];exact Heap.get?_push_of_some _ e
 have hlt3:∀b∈fp,b<s3.heap.objs.size:=λb hb=>by
  obtain⟨o,e,_⟩:=T.obj _ _ st2 b hb
  exact Heap.lt_size (k3 b o e)
 refine wpAny_newFunctionEnv ok.nocell (by intro y hy;simp at hy) (λh₁ hns₁ hsb₁=>?_) ok.kind
 have k4:∀b o,s3.heap.get? b=some o->h₁.get? b=some o:=λb o e=>(hsb₁.2 b (Nat.ne_of_lt (Heap.lt_size e))).trans (Heap.get?_push_of_some _ e)
 have J0:=zdg (tk:=s3.toks+([]:List (Str×Value)).length) I3 f3 hlt3 ok hsc c1 c2 hns₁ k4
 have st4:tn 0 h₁:=T.keep _ _ _ st2 λb hb o e=>k4 b o (k3 b o e)
 generalize hC:s3.heap.objs.size=C at *
 have stat:∀{H':Hp},(∀b∈fp,H' b=none)->∀b∈fp,zc5 (zy X N' scope cl C s3 (upd H2 l (.lst [])) fp) [] H' b:=λ{H'} hn b hb=>
  ⟨hn b hb,(J0.ok.exf b hb).1,J0.ok.exfs b hb, .inl hb,(J0.ok.exf b hb).2,λp hp=>absurd (show p∈([]:List (Addr×Obj))from hp) (by simp)⟩
 have loop:codeAny (model X.prog X.w) X.A (.compLoop (.ListComp elt [⟨tg,iter,ifs,0⟩] scope pos) 0 (.ref it) (.ref l) (compEnvC scope cl C X.env))
  (compPost (model X.prog X.w) X.A X.xe (some (assign (.Name y py) X.env)) (λ_ s'=>∃σ' H',Inv X pins σ' H' s'/\D.nx σ' H') (.ref l) C) {s3 with heap:=h₁,toks:=s3.toks+([]:List (Str×Value)).length}:=by
  refine zds (λn s'=>∃i ys σ' H',Inv (zy X N' scope cl C s3 (upd H2 l (.lst [])) fp) [] σ' H' s'/\tn i s'.heap/\(∀b∈fp,H' b=none)/\H' l=some (.lst ys)/\W i n ys σ' H') ?_ m0
   ⟨0,[],_,_,J0,st4,λb hb=>(f3 b hb).1,zb,w0⟩
  rintro n s5 ⟨i,ys,σ5,H5,I5,st5,fr5,hl5,w5⟩
  rcases turn i n ys σ5 H5 w5 hl5 with⟨stop,qn⟩|⟨go,N,hN,step⟩
  ·refine thn (T.done (zy X N' scope cl C s3 (upd H2 l (.lst [])) fp) rfl rfl rfl hc i [] s5 σ5 H5 (λ_ _=>False) I5 (stat fr5) st5 stop) λr s6 ⟨hr,I6⟩=>?_
   subst hr
   obtain⟨m,hn,_⟩:=I6.loc
   have hCs:s3.heap.objs.size<=C:=by rw[←hC];exact Nat.le_refl _
   have I7:Inv X pins σ H5 s6:=zdn (h':=s6.heap) I3 f3 hCs I6 ⟨rfl,λ_ _=>rfl⟩
   have fC:zc5 X pins H5 C:=I3.fpOk hCs I6.free
   obtain⟨oC,eC,dC⟩:∃o,s6.heap.get? C=some o/\∀v,o.data≠ .cell v:=by
    obtain⟨o,e,d⟩:=zoU hn
    exact⟨o,e,d⟩
   have I8:=I7.pinned (fp:=[C]) (λb hb=>by rw[List.mem_singleton.mp hb];exact fC) (λb hb=>by rw[List.mem_singleton.mp hb];exact⟨oC,eC,dC⟩)
   refine wpAny_assign_Name (zcC (v:= .ref l) I8 hN hk (.inl hx) rfl (λs9 I9=>?_) (.inr hx))
   have p9:=(I9.pin (C,oC) (List.mem_append_right _ (List.mem_append_right _ (zaf (List.mem_singleton.mpr rfl) eC)))).1
   refine⟨m,znq hn eC p9,λh' hsb=>⟨_,H5,?_,qn⟩⟩
   obtain⟨f0,f1,f2,f3',f4,f5⟩:=fC
   exact I9.unpinned.turned (t':=s9.toks) (λb o hb e=>(hsb.2 b hb).trans e) f0 f1 f3' f4 f5
  ·refine thn (T.item (zy X N' scope cl C s3 (upd H2 l (.lst [])) fp) rfl rfl rfl hc i [] s5 σ5 H5 (λ_ _=>False) I5 (stat fr5) st5 go) λr s6 ⟨u,hr,h6⟩=>?_
   subst hr
   refine thn h6 λ_ s7 ⟨x,H7,I7,r7,y7,st7,fr7⟩=>?_
   have I7':=I7.pinned (stat fr7) (T.obj _ _ st7)
   refine thn (hg cl C s3 _ fp _ s7 σ5 H7 x u _ I7' r7 (step x H7 y7)) λ_ s8 ⟨σ8,H8,I8,q8⟩=>?_
   refine thn (ht cl C s3 _ fp _ s8 σ8 H8 _ I8 q8) λb s9 ⟨H9,I9,q9⟩=>?_
   have back:∀{s':Shared} {H':Hp},Inv (zy X N' scope cl C s3 (upd H2 l (.lst [])) fp) ([]++zdd fp s7.heap) σ8 H' s'->tn (i+1) s'.heap/\∀b∈fp,H' b=none:=λ{s' H'} I'=>by
    refine⟨T.keep _ _ _ st7 λb hb o e=>(I'.pin (b,o) (List.mem_append_right _ (List.mem_append_right _ (zaf hb e)))).1,λb hb=>?_⟩
    obtain⟨o,e,d⟩:=T.obj _ _ st7 b hb
    exact(I'.pin (b,o) (List.mem_append_right _ (List.mem_append_right _ (zaf hb e)))).2.1
   cases b with
   |false=>
    obtain⟨hl9,n9⟩:=q9
    obtain⟨m',hm,w9⟩:=hN _ _ _ n9
    obtain⟨t9,fr9⟩:=back I9
    exact⟨m',hm,i+1,ys,σ8,H9,I9.unpinned,t9,fr9,hl9,w9⟩
   |true=>
    refine thn (he cl C s3 _ fp _ s9 σ8 H9 _ I9 q9) λxv s10 ⟨y,H10,I10,r10,hl10,hz,n10⟩=>?_
    obtain⟨m',hm,w10⟩:=hN _ _ _ n10
    refine thn (zaD (X:=zy X N' scope cl C s3 (upd H2 l (.lst [])) fp) _ s10 σ8 H10 (.ref l) [y] (.ref l) [xv] (λv H'=>H'=upd H10 l (.lst (ys ++ [y]))) I10 rfl (.cons r10 .nil) ⟨l,ys,y,rfl,rfl,hl10,hz,rfl⟩) λ_ s11 ⟨_,H11,I11,_,e11⟩=>?_
    subst e11
    obtain⟨t11,fr11⟩:=back I11
    exact⟨m',hm,i+1,ys ++ [y],σ8,_,I11.unpinned,t11,fr11,zb,w10⟩
 exact codeAny_compStart_list loop (T.self _ 0 _ _ _ st4 loop)
theorem zdQ(k:Nat)(ok:CompOk X.N osc N' src scope)(hsc:X.env.scope=osc)(hc:X.calm=true)(hN:X.N.Nodup)(hi:QI X tg iter wi)
 (hg:∀cl C s₀ H₀ fp,QG (zy X N' scope cl C s₀ H₀ fp) tg g) (ht:∀cl C s₀ H₀ fp,QF (zy X N' scope cl C s₀ H₀ fp) ifs tc) (he:∀cl C s₀ H₀ fp,QE (zy X N' scope cl C s₀ H₀ fp) elt te)
 (hk:X.N[k]?=some y:=by rfl) (hx:X.env.scope.names.lookup y=some .local:=by rfl) (hsw:swapsWith (.ListComp elt [⟨tg,iter,ifs,0⟩] scope pos) (some (.Name y py)) spos.line X.env=pure true:=by rfl)
 (hs:∀x,foldedSetIterable iter X.env x=pure x:=by intro _;rfl):QS X (.Assign [.Name y py] (.ListComp elt [⟨tg,iter,ifs,0⟩] scope pos) spos) (zij (zjf wi g tc te src) (zbi k)):=
 ⟨zio ok hsc hc hi.o (λcl C s₀ H₀ fp=>(hg cl C s₀ H₀ fp).o) (λcl C s₀ H₀ fp=>(ht cl C s₀ H₀ fp).o) (λcl C s₀ H₀ fp=>(he cl C s₀ H₀ fp).o) hN hk hx hsw hs⟩
end
section
variable{X:Cx}{e o i tg:Expr}{te to ti:TE}{g:TG}{pos:Pos}{x:Str}{t:zmw}
theorem zd6(he:QE X e te)(hg:QG X tg g)(hs:swapsWithSole [tg] e pos.line X.env=pure false:=by rfl)(hw:swappedStores [tg] e X.env=pure none:=by rfl)
 (h1:(assignEach [tg] X.env).map (·.2)=[assign tg X.env]:=by rfl):QS X (.Assign [tg] e pos) (zij te g):=⟨zo7 he.o hg.o hs hw h1⟩
theorem zi3(ho:QE X o to)(hi:QE X i ti)(hs:zoe X t)(ha:∀v,assign (.Subscript o i pos) X.env v=(do
 let ov ←holding [v] (eval o X.env)
 let iv ←holding [v,ov] (eval i X.env)
 standAt pos
 holding [v,ov,iv] (setItem ov iv v)
 release [v,ov,iv] []):=by intro _;rfl):QG X (.Subscript o i pos) (zps to ti t):=⟨zoV ho.o hi.o hs ha⟩
theorem zgB(k:Nat)(hN:X.N.Nodup)(hi:X.N[k]?=some x:=by rfl)(hx:X.env.scope.names.lookup x=some .cell:=by rfl)(hf:X.fn x=true:=by rfl):QG X (.Name x pos) (zbi k):=⟨ziM hN hi (.inr hx) (.inl hf)⟩
end
theorem zfS(bs:List Bool):(List.range bs.length).any (λj=>match bs[j]? with|some b=>b|none=>false)=bs.any id:=by
 rw[Bool.eq_iff_iff,List.any_eq_true,List.any_eq_true]
 constructor
 ·rintro ⟨j,hj,h⟩
  have hj':j<bs.length:=List.mem_range.mp hj
  refine⟨bs[j],List.getElem_mem hj',?_⟩
  simpa[hj'] using h
 ·rintro ⟨b,hb,h⟩
  obtain⟨j,hj,e⟩:=List.getElem_of_mem hb
  exact⟨j,List.mem_range.mpr hj,by simp[hj,e];simpa using h⟩
def atA(bs:List Bool)(j:Nat):Bool:=match bs[j]? with|some b=>b|none=>false
theorem zjZ{X:Cx}(hc:X.calm=true):CallR X (.builtin "any") (λxs H Q=>∃(p:Addr) (bs:List Bool),xs=[.ref p]/\SqL X.K H p (bs.map V.bl)/\Q (.bl (bs.any id)) H):=by
 intro pins s σ H xs us Q I r h
 obtain⟨p,bs,rfl,hq,q⟩:=h
 obtain⟨u,rfl,ru⟩:=zb6 r
 cases ru
 obtain⟨its,rv,pl,hz⟩:=I.list hq
 have hp:p≠s.heap.objs.size:=Nat.ne_of_lt pl.lt
 refine call_any_walk (wpAny_pyIter_list pl.isList ?_)
 refine⟨s.heap.objs.size,_,_,_,_,_,atA bs,rfl,Walks.list (A:=X.A.in1) (show X.A.in1.handled=none from I.ok.hd hc) _ p hp its.toArray,⟨⟨_,Heap.get?_push_size _ rfl,rfl,rfl⟩,?_⟩,?_,λh' tk hk=>?_⟩
 ·obtain ⟨o,n,e,c,_,d⟩:=pl
  exact⟨o,Heap.get?_push_of_some _ e,c,n,d⟩
 ·intro i v s' Q' E' hP hQ
  obtain⟨b,h1,rfl⟩:=zfK (i:=i) (v:=v) rv (by simpa using hP)
  refine wpAny_truthy_bool ?_
  have e:atA bs i=b:=by unfold atA;rw[h1]
  rw[e] at hQ
  exact hQ
 ·have hl:its.toArray.size=bs.length:=by
   have:=rv.length
   simp at this
   simp[this]
  have hq':(List.range its.toArray.size).any (atA bs)=bs.any id:=by rw[hl];exact zfS bs
  rw[hq']
  refine⟨.bl (bs.any id),H,I.kept λb o e=>hk b o ?_ (Heap.get?_push_of_some _ e),rfl,q⟩
  intro z
  have:b=s.heap.objs.size:=by simpa using z
  exact absurd (Heap.lt_size e) (by rw[this];exact Nat.lt_irrefl _)
def zqc(t u:TS):TS:=λD σ H=>∃R:St->Hp->Prop,t {D with nx:=R} σ H/\∀σ' H',R σ' H'->u D σ' H'
theorem ziP{X:Cx}{st:Stmt}{sts:List Stmt}{sa sb:TS}(h1:QS X st sa)(h2:QB X sts sb):QB X (st::sts) (zqc sa sb):=by
 refine⟨λpins s σ H D I h=>?_⟩
 obtain⟨R,ha,hb⟩:=h
 have h3:PSs X sts (λD' σ' H'=>D'=D/\R σ' H'):=λpins s σ' H' D' I h=>by
  obtain⟨rfl,hR⟩:=h
  exact h2.o pins s σ' H' D' I (hb σ' H' hR)
 have e:(λσ' H'=>D=D/\R σ' H')=R:=by
  funext σ' H'
  simp
 refine zhi h1.o h3 pins s σ H D I ?_
 show sa {D with nx:=λσ' H'=>D=D/\R σ' H'} σ H
 rw[e]
 exact ha
section
variable{X:Cx}
theorem zlH(z:Str):zeH z 1=z:=by
 unfold zeH
 simp
theorem zhh:OpR X (binaryOp .Mult) (λx y H Q=>∃z n,x= .str z/\y= .int n/\1<=n/\n<=1000/\0<z.length/\z.length<=1000/\Q (.str (zeH z n.toNat)) H):=by
 intro pins s σ H x y v u Q I rx ry h
 obtain⟨z,n,rfl,rfl,h1,h2,h3,h4,q⟩:=h
 by_cases h:1<n
 ·exact zhN pins s σ H _ _ v u Q I rx ry ⟨z,n,rfl,rfl,h,h2,h3,h4,q⟩
 ·have e:n=1:=by omega
  subst e
  obtain⟨t,rfl⟩:=rx
  obtain⟨t',rfl⟩:=ry
  refine PySem.P.mul_str (by decide) (λ_ z=>by simp at z) (λ_ z=>by simp at z) ?_
  simp only[show¬(1:Int)<1 by decide,if_false,beq_self_eq_true,Bool.true_or,if_true]
  refine⟨.str _,H,I,⟨_,rfl⟩,?_⟩
  have e:zeH z (1:Int).toNat=z:=zlH z
  rw[e] at q
  exact q
end
section
variable{X:Cx}{K:PySem.W.Frag}
theorem zmc(h:X.K=K):IxR X (zod K):=by subst h;exact ix_tup
theorem z8:CallR X (.builtin "len") (λxs H Q=>(∃p ys,xs=[.ref p]/\(SqL X.K H p ys\/SqT X.K H p ys)/\Q (.int ys.length) H)\/∃z,xs=[.str z]/\z.length<=sizeLine/\Q (.int z.length) H):=call_len_seq.or zgz
theorem zh5(n:Nat){k:Nat}{es:List Expr}{pos:Pos}{tgs:TGs}(hK:X.K=K)(hc:X.calm=true)(h:QGs X es tgs)(hn:(assignEach es X.env).length=n:=by rfl)(hst:(assignEach es X.env).findIdx? (·.1)=none:=by rfl):QG X (.Tuple es k pos) (zoq K n tgs):=by subst hK;exact zda n hc h hn hst
end
end L2
namespace RW
open PySem PySem.Spec PyProof.Rows L2
def zja(c:Nat):Bool:=decide (97<=c)&&decide (c<=122)
def takenL:List Str:=["if","and","not","never"]
def zh(x:Str):Bool:=decide (1<=x.length)&&decide (x.length<=8)&&x.cps.toList.all zja&&!(takenL.any λy=>decide (y=x))
def Hand(H:Hp)(a:Addr)(n:Int):Prop:=∃x m t:Int,H a=some (.lst [.int x, .int m, .int t])/\0<=m/\m<2^63/\0<=t/\t<=n
def Keep(a:Addr)(H H':Hp):Prop:=∀b o,b≠a->H b=some o->H' b=some o
theorem Keep.trans{a:Addr}{H H1 H2:Hp}(x:Keep a H H1)(y:Keep a H1 H2):Keep a H H2:=λb o n h=>y b o n (x b o n h)
theorem Keep.upd(a:Addr)(H:Hp)(o:HO):Keep a H (upd H a o):=λb u n h=>by rw[ze n];exact h
theorem Keep.new{a p:Addr}{H:Hp}{o:HO}(h:H p=none):Keep a H (L2.upd H p o):=λb u n e=>by rw[ze (zi e h)];exact e
theorem Keep.of{a:Addr}{H H':Hp}(h:Same H H'):Keep a H H':=λb o _ e=>h b o e
theorem Hand.ne{H:Hp}{a p:Addr}{n:Int}(h:Hand H a n)(e:H p=none):p≠a:=by
 obtain⟨x,m,t,h,_⟩:=h
 exact λz=>by rw[z,h] at e;cases e
theorem Hand.new{H:Hp}{a p:Addr}{n:Int}{o:HO}(h:Hand H a n)(e:H p=none):Hand (upd H p o) a n:=by
 have ne:=h.ne e
 obtain⟨x,m,t,h,r⟩:=h
 exact⟨x,m,t,by rw[ze (Ne.symm ne)];exact h,r⟩
theorem Hand.same{H H':Hp}{a:Addr}{n:Int}(h:Hand H a n)(s:Same H H'):Hand H' a n:=by
 obtain⟨x,m,t,h,r⟩:=h
 exact⟨x,m,t,s _ _ h,r⟩
theorem Hand.mono{H:Hp}{a:Addr}{n n':Int}(h:Hand H a n)(l:n<=n'):Hand H a n':=by
 obtain⟨x,m,t,h,h1,h2,h3,h4⟩:=h
 exact⟨x,m,t,h,h1,h2,h3,by omega⟩
theorem Keep.sqL{K:PySem.W.Frag}{a b:Addr}{H H':Hp}{xs:List V}(k:Keep a H H')(n:b≠a)(h:SqL K H b xs):SqL K H' b xs:=by
 rcases h with(h|⟨o,h⟩)|h
 ·exact .inl (.inl (k _ _ n h))
 ·exact .inl (.inr ⟨o,k _ _ n h⟩)
 ·exact .inr h
theorem Hand.updNe{H:Hp}{a p:Addr}{n:Int}{o:HO}(h:Hand H a n)(e:p≠a):Hand (upd H p o) a n:=by
 obtain⟨x,m,t,h,r⟩:=h
 exact⟨x,m,t,by rw[ze (Ne.symm e)];exact h,r⟩
theorem Keep.updNew{a p:Addr}{H H':Hp}{o:HO}(k:Keep a H H')(e:H p=none):Keep a H (L2.upd H' p o):=λb u n h=>by
 rw[ze (zi h e)]
 exact k b u n h
def lettersS:Str:="abcdefghijklmnopqrstuvwxyz"
def one(c:Nat):Str:=⟨#[c]⟩
theorem Same.new{H:Hp}{p:Addr}{o:HO}(h:H p=none):Same H (L2.upd H p o):=λb u e=>by rw[ze (zi e h)];exact e
structure At(K:PySem.W.Frag)(mg:Str->Option Value)(x:Str)(st:Stmt)(ps:List Str)(f:Addr)(fd:FuncData):Prop where
 fn:Fun K x x st f fd
 b:Binds K fd ps []
 mg:mg x=some (.ref f)
 kp:PySem.W.keepIn K (.ref f)=true
theorem zet{α:Type}{xs:List α}{d:Int}(h0:0<=d)(h1:d<xs.length):∃v,atI xs d=some v/\v∈xs:=by
 obtain⟨k,rfl⟩:∃k:Nat,d=(k:Int):=⟨d.toNat,by omega⟩
 have hk:k<xs.length:=by omega
 exact⟨xs[k],zU (by simp[hk]),List.getElem_mem hk⟩
theorem at0{α:Type}{x:α}{xs:List α}:atI (x::xs) 0=some x:=zU (j:=0) rfl
theorem at1{α:Type}{x y:α}{xs:List α}:atI (x::y::xs) 1=some y:=zU (j:=1) rfl
inductive D where
 |non|bl (b:Bool)|int (i:Int)|str (x:Str)|tup (ds:List D)|oth
inductive Rep(H:Hp):V->D->Prop where
 |non:Rep H .non .non
 |bl (b:Bool):Rep H (.bl b) (.bl b)
 |int (i:Int):Rep H (.int i) (.int i)
 |str (x:Str) (h:x.length<=1000):Rep H (.str x) (.str x)
 |tup {p:Addr} {vs:List V} {ds:List D} (h:H p=some (.tup vs)) (l:vs.length=ds.length) (b:ds.length<=1000) (r:∀(i:Nat) (v:V) (d:D),vs[i]?=some v->ds[i]?=some d->Rep H v d):Rep H (.ref p) (.tup ds)
 |lst {p:Addr} {vs:List V} (h:H p=some (.lst vs)):Rep H (.ref p) .oth
 |dK {p:Addr} {kvs:List (Key×V)} (h:H p=some (.dK kvs)):Rep H (.ref p) .oth
structure Mono(H H':Hp):Prop where
 tup:∀p xs,H p=some (.tup xs)->H' p=some (.tup xs)
 lst:∀p xs,H p=some (.lst xs)->∃ys,H' p=some (.lst ys)
 dK:∀p xs,H p=some (.dK xs)->∃ys,H' p=some (.dK ys)
theorem Mono.refl(H:Hp):Mono H H:=⟨λ_ _ h=>h,λ_ xs h=>⟨xs,h⟩,λ_ xs h=>⟨xs,h⟩⟩
theorem Mono.trans{H H1 H2:Hp}(a:Mono H H1)(b:Mono H1 H2):Mono H H2:=⟨λp xs h=>b.tup p xs (a.tup p xs h),λp xs h=>let ⟨ys,e⟩:=a.lst p xs h;b.lst p ys e,λp xs h=>let ⟨ys,e⟩:=a.dK p xs h;b.dK p ys e⟩
theorem Mono.of{H H':Hp}(s:Same H H'):Mono H H':=⟨λp xs h=>s _ _ h,λp xs h=>⟨xs,s _ _ h⟩,λp xs h=>⟨xs,s _ _ h⟩⟩
theorem Mono.new{H:Hp}{p:Addr}{o:HO}(h:H p=none):Mono H (upd H p o):= .of (Same.new h)
theorem Mono.lset{H:Hp}{p:Addr}{xs ys:List V}(h:H p=some (.lst xs)):Mono H (upd H p (.lst ys)):=by
 refine⟨λq zs e=>?_,λq zs e=>?_,λq zs e=>?_⟩
 ·by_cases hq:q=p
  ·subst hq;rw[h] at e;cases e
  ·rw[ze hq];exact e
 ·by_cases hq:q=p
  ·subst hq;exact⟨ys,zb⟩
  ·rw[ze hq];exact⟨zs,e⟩
 ·by_cases hq:q=p
  ·subst hq;rw[h] at e;cases e
  ·rw[ze hq];exact⟨zs,e⟩
theorem Mono.keep{H H':Hp}{a:Addr}{n m:Int}(k:Keep a H H')(h:Hand H a n)(h':Hand H' a m):Mono H H':=by
 obtain⟨x,y,z,h,_⟩:=h
 obtain⟨x',y',z',h',_⟩:=h'
 refine⟨λq zs e=>?_,λq zs e=>?_,λq zs e=>?_⟩
 ·exact k q _ (λhq=>by subst hq;rw[h] at e;cases e) e
 ·by_cases hq:q=a
  ·subst hq;exact⟨_,h'⟩
  ·exact ⟨zs,k q _ hq e⟩
 ·exact ⟨zs,k q _ (λhq=>by subst hq;rw[h] at e;cases e) e⟩
theorem Rep.mono{H H':Hp}{v:V}{d:D}(h:Rep H v d)(m:Mono H H'):Rep H' v d:=by
 induction h with
 |non=>exact .non
 |bl b=>exact .bl b
 |int i=>exact .int i
 |str x h=>exact .str x h
 |tup h l b _ ih=>exact .tup (m.tup _ _ h) l b ih
 |lst h=>obtain ⟨ys,e⟩:=m.lst _ _ h;exact .lst e
 |dK h=>obtain ⟨ys,e⟩:=m.dK _ _ h;exact .dK e
theorem Rep.same{H H':Hp}{v:V}{d:D}(h:Rep H v d)(s:Same H H'):Rep H' v d:=h.mono (.of s)
def RepL(H:Hp)(vs:List V)(ds:List D):Prop:=vs.length=ds.length/\∀(i:Nat) (v:V) (d:D),vs[i]?=some v->ds[i]?=some d->Rep H v d
theorem RepL.nil{H:Hp}:RepL H [] []:=⟨rfl,λi v d e=>by simp at e⟩
theorem RepL.cons{H:Hp}{v:V}{d:D}{vs:List V}{ds:List D}(h:Rep H v d)(r:RepL H vs ds):RepL H (v::vs) (d::ds):=by
 refine⟨by simp[r.1],λi w e h1 h2=>?_⟩
 cases i with
 |zero=>simp at h1 h2;subst h1;subst h2;exact h
 |succ i=>exact r.2 i w e (by simpa using h1) (by simpa using h2)
theorem RepL.head{H:Hp}{v:V}{d:D}{vs:List V}{ds:List D}(r:RepL H (v::vs) (d::ds)):Rep H v d/\RepL H vs ds:=
 ⟨r.2 0 v d rfl rfl,by have:=r.1;simp at this;exact this,λi w e h1 h2=>r.2 (i+1) w e (by simpa using h1) (by simpa using h2)⟩
theorem RepL.mono{H H':Hp}{vs:List V}{ds:List D}(r:RepL H vs ds)(m:Mono H H'):RepL H' vs ds:=⟨r.1,λi v d h1 h2=>(r.2 i v d h1 h2).mono m⟩
theorem RepL.append{H:Hp}{vs us:List V}{ds es:List D}(r:RepL H vs ds)(q:RepL H us es):RepL H (vs ++us) (ds ++es):=by
 refine⟨by rw[List.length_append,List.length_append,r.1,q.1],λi v d h1 h2=>?_⟩
 by_cases hi:i<vs.length
 ·rw[List.getElem?_append_left hi] at h1
  rw[List.getElem?_append_left (by rw[←r.1];exact hi)] at h2
  exact r.2 i v d h1 h2
 ·rw[List.getElem?_append_right (by omega)] at h1
  rw[List.getElem?_append_right (by rw[←r.1];omega),←r.1] at h2
  exact q.2 _ v d h1 h2
theorem RepL.take{H:Hp}{vs:List V}{ds:List D}(r:RepL H vs ds)(n:Nat):RepL H (vs.take n) (ds.take n):=by
 refine⟨by rw[List.length_take,List.length_take,r.1],λi v d h1 h2=>?_⟩
 rw[List.getElem?_take] at h1 h2
 split at h1
 ·rename_i h;rw[if_pos h] at h2;exact r.2 i v d h1 h2
 ·cases h1
theorem RepL.drop{H:Hp}{vs:List V}{ds:List D}(r:RepL H vs ds)(n:Nat):RepL H (vs.drop n) (ds.drop n):=by
 refine⟨by rw[List.length_drop,List.length_drop,r.1],λi v d h1 h2=>?_⟩
 rw[List.getElem?_drop] at h1 h2
 exact r.2 _ v d h1 h2
theorem RepL.get{H:Hp}{vs:List V}{ds:List D}{i:Nat}{v:V}(r:RepL H vs ds)(h:vs[i]?=some v):∃d,ds[i]?=some d/\Rep H v d:=by
 have hi:i<vs.length:=by
  rcases Nat.lt_or_ge i vs.length with q|q
  ·exact q
  ·rw[List.getElem?_eq_none q] at h;cases h
 have hd:i<ds.length:=by rw[←r.1];exact hi
 exact⟨ds[i],by simp[hd],r.2 i v _ h (by simp[hd])⟩
theorem Rep.mkL{H:Hp}{p:Addr}{vs:List V}{ds:List D}(h:H p=some (.tup vs))(b:ds.length<=1000)(r:RepL H vs ds):Rep H (.ref p) (.tup ds):= .tup h r.1 b r.2
theorem Rep.ofT{H:Hp}{v:V}{ds:List D}(h:Rep H v (.tup ds)):∃p vs,v= .ref p/\H p=some (.tup vs)/\RepL H vs ds/\ds.length<=1000:=by
 cases h with
 |tup h l b r=>exact ⟨_,_,rfl,h,⟨l,r⟩,b⟩
theorem Rep.of2{H:Hp}{v:V}{d e:D}(h:Rep H v (.tup [d,e])):∃p x y,v= .ref p/\H p=some (.tup [x,y])/\Rep H x d/\Rep H y e:=by
 obtain⟨p,vs,rfl,hp,r,_⟩:=h.ofT
 match vs,r with
 |[x,y],r=>exact ⟨p,x,y,rfl,hp,r.head.1,r.head.2.head.1⟩
 |[],r=>exact absurd r.1 (by simp)
 |[_],r=>exact absurd r.1 (by simp)
 |_::_::_::_,r=>exact absurd r.1 (by simp)
theorem Rep.mk1{H:Hp}{p:Addr}{x:V}{d:D}(h:H p=some (.tup [x]))(a:Rep H x d):Rep H (.ref p) (.tup [d]):= .mkL h (by simp) (.cons a .nil)
theorem Rep.mk2{H:Hp}{p:Addr}{x y:V}{d e:D}(h:H p=some (.tup [x,y]))(a:Rep H x d)(b:Rep H y e):Rep H (.ref p) (.tup [d,e]):= .mkL h (by simp) (.cons a (.cons b .nil))
def isTupB:D->Bool| .tup _=>true|_=>false
def isStrB:D->Bool| .str _=>true|_=>false
def isNumB:D->Bool| .int _=>true|_=>false
def zeJ(d:D)(lo hi:Int):Bool:=match d with| .int i=>decide (lo<=i)&&decide (i<=hi)|_=>false
def headStrB:D->Bool| .tup (.str _::_)=>true|_=>false
def zcW:D->Bool| .str x=>zh x|_=>false
def namingL:List Str:=["by","from","to","mark"]
def zE:D->Bool
 | .tup [.str w,x]=>if w="long"then zeJ x 0 99 else(namingL.any λy=>decide (y=w))&&zcW x
 |_=>false
def zL(d:D):Bool:=match d with
 | .tup [.str w,x]=>if w="not"then zE x else zE d
 |_=>false
def zW:D->Bool| .tup ds=>decide (ds.length<=4)&&ds.all zL|_=>false
def zd3:D->Bool| .tup [.str w,_]=>decide (w="to")|_=>false
def zdD:D->Bool| .tup [.str w,x]=>if w="not"then zd3 x else decide (w="to")|_=>false
def zad:D->Bool| .non=>true|d=>zeJ d (-999) 999
def zcl:D->Bool| .tup ds=>ds.any zdD|_=>false
def zQ:D->Bool| .tup [c,x]=>zW c&&zad x&&!zcl c|_=>false
def zbe:D->Bool
 | .tup [.str w]=>decide (w="keep")
 | .tup [.str w,x]=>(decide (w="put")||decide (w="strike"))&&zcW x
 |_=>false
def zbh:D->Bool| .tup [c,x]=>zW c&&zbe x|_=>false
theorem zdw{w:Str}{x:D}:zE (.tup [.str w,x])=if w="long"then zeJ x 0 99 else(namingL.any λy=>decide (y=w))&&zcW x:=rfl
theorem zer{w:Str}{x:D}:zL (.tup [.str w,x])=if w="not"then zE x else zE (.tup [.str w,x]):=rfl
theorem zgH{ds:List D}:zW (.tup ds)=(decide (ds.length<=4)&&ds.all zL):=rfl
theorem zjC{c x:D}:zQ (.tup [c,x])=(zW c&&zad x&&!zcl c):=rfl
theorem zmP{c x:D}:zbh (.tup [c,x])=(zW c&&zbe x):=rfl
theorem zo1{w:Str}{x:D}:zbe (.tup [.str w,x])=((decide (w="put")||decide (w="strike"))&&zcW x):=rfl
theorem zhb{x:Str}:zcW (.str x)=zh x:=rfl
theorem zch{x y:Str}:decide (V.str x=V.str y)=decide (x=y):=by
 by_cases h:x=y
 ·subst h;rw[decide_eq_true rfl,decide_eq_true rfl]
 ·rw[decide_eq_false h,decide_eq_false λz=>h (V.str.inj z)]
theorem zcw(d:D)(h:zE d=true):∃x e,d= .tup [.str x,e]:=by
 unfold zE at h
 split at h
 ·exact ⟨_,_,rfl⟩
 ·cases h
theorem zjS(d:D)(h:zL d=true):∃x e,d= .tup [.str x,e]:=by
 unfold zL at h
 split at h
 ·exact ⟨_,_,rfl⟩
 ·cases h
theorem zcU{e:D}:zE (.tup [.str "not",e])=false:=by
 have h1:¬("not":Str)="long":=by decide +kernel
 have h2:(namingL.any λy=>decide (y=("not":Str)))=false:=by decide +kernel
 rw[zdw,if_neg h1,h2];rfl
theorem za8{xs:List V}{n:Nat}:zaY xs none (some (n:Int))=xs.take n:=by
 unfold zaY
 have e1:HT.sIx xs.length 0 none=0:=rfl
 have e2:HT.sIx xs.length xs.length (some (n:Int))=min n xs.length:=by
  unfold HT.sIx
  have h:¬(n:Int)<0:=by omega
  simp only[if_neg h,Int.toNat_natCast]
 rw[e1,e2,List.drop_zero,Nat.sub_zero,List.take_eq_take_iff]
 omega
theorem zif{N:Nat}{a:Addr}{m c:Int}{Pd:Nat->D->Prop}{H:Hp}{te:TE}{src:List (Option Nat)}{σ σr:L2.St}{Q:VK}(hs:zdk src σ=none::σr)(hH:Hand H a m)(hN:N<=900)(hc:0<=c)
 (he:∀(i:Nat) (H1:Hp) (Q1:VK),i<N->Hand H1 a (m+c*i)->Keep a H H1->(∀v d H2,Rep H2 v d->Pd i d->Hand H2 a (m+c*i+c)->Keep a H1 H2->Q1 v H2)->te (some (.int (i:Int))::σr) H1 Q1)
 (q:∀l vs ds H',H l=none->H' l=some (.lst vs)->RepL H' vs ds->ds.length=N->(∀i d,ds[i]?=some d->Pd i d)->Hand H' a (m+c*N)->Keep a H H'->Q (.ref l) H'):zcu (zbi 0) zjO te src σ Q (Itr 0 N) H:=by
 refine zba zcA (λl i ys σ' H'=>(∃o,σ'=o::σr)/\(∃ds:List D,RepL H' ys ds/\ds.length=i/\∀j d,ds[j]?=some d->Pd j d)/\Hand H' a (m+c*i)/\Keep a H H') ?_ (λ_ _ _ _ _ _ _=>trivial) ?_ ?_
 ·exact λl hl=>⟨⟨_,hs⟩,⟨[],RepL.nil,rfl,λj d z=>by simp at z⟩,(hH.new hl).mono (by simp),Keep.new hl⟩
 ·rintro l i y ys σ' H1 hl hi rfl ⟨⟨o,rfl⟩,⟨ds,hr,hl2,hp⟩,hH1,k1⟩ hl'
  have nl:=hH.ne hl
  rw[Int.zero_add]
  refine he i H1 _ hi hH1 k1 λv d H2 rv pd hH2 k2=>?_
  have hl2':H2 l=some (.lst ys):=k2 _ _ nl hl'
  have m2:Mono H1 H2:=Mono.keep k2 hH1 hH2
  have m3:Mono H2 (upd H2 l (.lst (ys ++ [v]))):=Mono.lset hl2'
  refine⟨hl2',?_,⟨_,rfl⟩,⟨ds ++ [d],((hr.mono m2).append (.cons rv .nil)).mono m3,?_,?_⟩,(hH2.updNe nl).mono ?_,(k1.trans k2).updNew hl⟩
  ·have:=hr.1
   exact zn (by omega)
  ·rw[List.length_append,hl2];rfl
  ·intro j e he
   by_cases hj:j<ds.length
   ·rw[List.getElem?_append_left hj] at he
    exact hp j e he
   ·rw[List.getElem?_append_right (by omega)] at he
    have hj2:j=ds.length:=by
     rcases Nat.lt_or_ge ds.length j with z|z
     ·rw[List.getElem?_eq_none (by simp;omega)] at he;cases he
     ·omega
    subst hj2
    simp at he
    subst he
    rw[hl2];exact pd
  ·rw[show((i+1:Nat):Int)=(i:Int)+1 by omega,Int.mul_add,Int.mul_one]
   omega
 ·rintro l ys σ' H1 hl ⟨⟨o,rfl⟩,⟨ds,hr,hl2,hp⟩,hH1,k1⟩ hl'
  exact q l ys ds H1 hl hl' hr hl2 hp hH1 k1
end RW
namespace L2
open PySem PySem.Spec PyProof.Rows
open Sem (wp)
open MeetsSeq MeetsSeq2 MeetsSeq3 Builtin
end L2
namespace L2
open PySem PySem.Spec PyProof.Rows
end L2
namespace RW
open PySem PySem.Spec PyProof.Rows L2
def Dsp(te:TE)(σ:L2.St)(H:Hp)(d:D):Prop:=∀(H1:Hp) (Q:VK),Same H H1->(∀v H2,Same H1 H2->Rep H2 v d->Q v H2)->te σ H1 Q
def zmq(ta:TA)(σ:L2.St)(H:Hp)(ds:List D):Prop:=∀(H1:Hp) (Q:List V->Hp->Prop),Same H H1->(∀vs H2,Same H1 H2->RepL H2 vs ds->Q vs H2)->ta σ H1 Q
def zpE(te:TE)(σ:L2.St)(H:Hp)(ds:List D):Prop:=∀(H1:Hp) (Q:VK),Same H H1->(∀l vs H2,Same H1 H2->H2 l=some (.lst vs)->RepL H2 vs ds->Q (.ref l) H2)->te σ H1 Q
section
variable{te tf:TE}{ta:TA}{σ:L2.St}{H:Hp}{d:D}{ds es:List D}{K:PySem.W.Frag}
theorem zm5{i:Int}:Dsp (tC (.int i)) σ H (.int i):=λH1 Q s q=>q _ H1 (Same.refl _) (.int i)
theorem zma:Dsp (tC .non) σ H .non:=λH1 Q s q=>q _ H1 (Same.refl _) .non
theorem zmO{i:Int}:Dsp (tUn (rU λi=> .int (-i)) (tC (.int i))) σ H (.int (-i)):=λH1 Q s q=>⟨i,rfl,q _ H1 (Same.refl _) (.int (-i))⟩
theorem zmC{i:Nat}{v:V}(h:σ[i]?=some (some v))(r:Rep H v d):Dsp (zmN i) σ H d:=λH1 Q s q=>⟨v,h,q v H1 (Same.refl _) (r.same s)⟩
theorem zkJ:zmq zob σ H []:=λH1 Q s q=>q [] H1 (Same.refl _) RepL.nil
theorem zjs(h:Dsp te σ H d)(r:zmq ta σ H ds):zmq (zi7 te ta) σ H (d::ds):=λH1 Q s q=>
 h H1 _ s λv H2 s2 rv=>r H2 _ (s.trans s2) λvs H3 s3 rs=>q (v::vs) H3 (s2.trans s3) (.cons (rv.same s3) rs)
theorem zlB(h:zmq ta σ H ds)(hl:ds.length<=1000):zpE (zoT ta) σ H ds:=λH1 Q s q=>
 h H1 _ s λvs H2 s2 rs=>⟨Nat.le_of_lt (zn (by rw[rs.1];exact hl)),λp hp=>q p vs _ (s2.trans (Same.new hp)) zb (rs.mono (.new hp))⟩
end
section
variable{te:TE}{tr:TA}{tb:TS}{De:Ends}{σ:L2.St}{H:Hp}{ds:List D}{d:D}{k:Nat}
theorem zn5{Q:List V->Hp->Prop}(h:zpE te σ H ds)(q:∀l vs H2,Same H H2->H2 l=some (.lst vs)->RepL H2 vs ds->tr σ H2 λxs H3=>Q (.ref l::xs) H3):zi7 te tr σ H Q:=h H _ (Same.refl H) q
end
theorem zh0{α:Type}{p:α->Prop}:∀d∈([]:List α),p d:=λ_ z=>nomatch z
theorem zhW{H:Hp}{a l:Addr}{n:Int}{vs:List V}{ds:List D}(h:Hand H a n)(e:H l=some (.lst vs))(r:RepL H vs ds)(h3:ds.length≠3):l≠a:=λz=>by
 obtain⟨x,m,t,hh,_⟩:=h
 rw[z,hh] at e
 cases e
 exact h3 r.1.symm
end RW
namespace RW
open PySem PySem.W PyProof.Rows L2
section
variable{α β:Type}{N:Nat}{lt:Nat->Nat->Bool}
def OkT(N:Nat)(lt:Nat->Nat->Bool){α:Type}:KasT α->(α->Prop)->Prop
 | .ret a,P=>P a
 | .ask i j k,P=>i<N/\j<N/\OkT N lt (k (lt i j)) P
theorem OkT.mono{P Q:α->Prop}(h:∀a,P a->Q a):∀{t:KasT α},OkT N lt t P->OkT N lt t Q
 | .ret a,q=>h a q
 | .ask i j k,⟨h1,h2,q⟩=>⟨h1,h2,OkT.mono h q⟩
theorem OkT.bind{f:α->KasT β}{P:β->Prop}:∀{t:KasT α},OkT N lt t (λa=>OkT N lt (f a) P)->OkT N lt (t.bind f) P
 | .ret a,q=>q
 | .ask i j k,⟨h1,h2,q⟩=>⟨h1,h2,OkT.bind q⟩
theorem OkT.wp{cmp:Nat->Nat->(Bool->Shared->Prop)->Shared->Prop}{I:Shared->Prop}(hc:∀i j (C:Bool->Shared->Prop) s,i<N->j<N->I s->(∀s',I s'->C (lt i j) s')->cmp i j C s){P:α->Prop}{Q:α->Shared->Prop}(hq:∀a s,P a->I s->Q a s):
 ∀{t:KasT α} {s:Shared},I s->OkT N lt t P->t.kasWp cmp Q s
 | .ret a,s,hs,q=>hq a s q hs
 | .ask i j k,s,hs,⟨h1,h2,q⟩=>hc i j _ s h1 h2 hs λs' hs'=>OkT.wp hc hq hs' q
abbrev gd(p:Array Nat)(i:Nat):Nat:=p.getD i 0
structure Strict(N:Nat)(lt:Nat->Nat->Bool):Prop where
 tot:∀i j,i<N->j<N->i≠j->lt i j=false->lt j i=true
 tr:∀i j k,i<N->j<N->k<N->lt i j=true->lt j k=true->lt i k=true
 asy:∀i j,i<N->j<N->lt i j=true->lt j i=false
def PermN(N:Nat)(p:Array Nat):Prop:=p.toList.Perm (List.range N)
theorem PermN.size{p:Array Nat}(h:PermN N p):p.size=N:=by
 have:=h.length_eq
 simpa using this
theorem gd_get{p:Array Nat}{i:Nat}(h:i<p.size):gd p i=p[i]:=by simp[gd,Array.getD,h]
theorem zgh{p q:Array Nat}{i j:Nat}(h:p[i]?=q[j]?):gd p i=gd q j:=by
 simp only[gd,Array.getD_eq_getD_getElem?,h]
theorem PermN.bd{p:Array Nat}(h:PermN N p){i:Nat}(hi:i<N):gd p i<N:=by
 have hs:=h.size
 rw[gd_get (by omega)]
 have:p[i]∈p.toList:=by simp
 exact List.mem_range.mp (h.mem_iff.mp this)
theorem PermN.inj{p:Array Nat}(h:PermN N p){i j:Nat}(hi:i<N)(hj:j<N)(hij:i≠j):gd p i≠gd p j:=by
 have hs:=h.size
 have nd:p.toList.Nodup:=h.nodup_iff.mpr List.nodup_range
 rw[gd_get (by omega),gd_get (by omega)]
 intro z
 exact hij ((List.getElem_inj (i:=i) (j:=j) (h₀:=by simp;omega) (h₁:=by simp;omega) nd).mp (by simpa using z))
def Sor(lt:Nat->Nat->Bool)(p:Array Nat)(m:Nat):Prop:=∀i j,i<j->j<m->lt (gd p i) (gd p j)=true
def Des(lt:Nat->Nat->Bool)(p:Array Nat)(m:Nat):Prop:=∀i j,i<j->j<m->lt (gd p j) (gd p i)=true
theorem Sor.snoc{p:Array Nat}{n:Nat}(S:Strict N lt)(hp:PermN N p)(h:Sor lt p n)(h1:1<=n)(hn:n<N)(e:lt (gd p (n -1)) (gd p n)=true):Sor lt p (n+1):=by
 intro i j hij hj
 by_cases hjn:j<n
 ·exact h i j hij hjn
 ·have ej:j=n:=by omega
  subst ej
  by_cases hi:i=j -1
  ·subst hi;exact e
  ·exact S.tr _ _ _ (hp.bd (by omega)) (hp.bd (by omega)) (hp.bd hn) (h i (j -1) (by omega) (by omega)) e
theorem Des.snoc{p:Array Nat}{n:Nat}(S:Strict N lt)(hp:PermN N p)(h:Des lt p n)(h1:1<=n)(hn:n<N)(e:lt (gd p n) (gd p (n -1))=true):Des lt p (n+1):=by
 intro i j hij hj
 by_cases hjn:j<n
 ·exact h i j hij hjn
 ·have ej:j=n:=by omega
  subst ej
  by_cases hi:i=j -1
  ·subst hi;exact e
  ·exact S.tr _ _ _ (hp.bd hn) (hp.bd (by omega)) (hp.bd (by omega)) e (h i (j -1) (by omega) (by omega))
theorem zhL{p:Array Nat}(S:Strict N lt)(hp:PermN N p):∀f n,1<=n->n+f<=N->Sor lt p n->OkT N lt (kas_asc p f n) (λm=>n<=m/\m<=n+f/\Sor lt p m/\(m<n+f->lt (gd p m) (gd p (m -1))=true))
 |0,n,_,_,hs=>⟨Nat.le_refl _,Nat.le_refl _,hs,λh=>by omega⟩
 |f+1,n,h1,hn,hs=>by
  refine⟨hp.bd (by omega),hp.bd (by omega),?_⟩
  cases hc:lt (gd p n) (gd p (n -1))with
  |true=>
   show OkT N lt (if true=true then _ else _) _
   rw[if_pos rfl]
   exact⟨Nat.le_refl _,by omega,hs,λ_=>hc⟩
  |false=>
   show OkT N lt (if false=true then _ else _) _
   rw[if_neg (by decide)]
   refine OkT.mono (λm hm=>⟨by omega,by omega,hm.2.2.1,λh=>hm.2.2.2 (by omega)⟩) (zhL S hp f (n+1) (by omega) (by omega) (hs.snoc S hp h1 (by omega) (S.tot _ _ (hp.bd (by omega)) (hp.bd (by omega)) (hp.inj (by omega) (by omega) (by omega)) hc)))
theorem ziR{p:Array Nat}(S:Strict N lt)(hp:PermN N p):∀f n,1<=n->n+f<=N->Des lt p n->OkT N lt (kas_desc f p n 0) (λr=>r.1=p/\n<=r.2.1/\r.2.1<=n+f/\Des lt p r.2.1/\r.2.2=0)
 |0,n,_,_,hs=>⟨rfl,Nat.le_refl _,Nat.le_refl _,hs,rfl⟩
 |f+1,n,h1,hn,hs=>by
  refine⟨hp.bd (by omega),hp.bd (by omega),?_⟩
  cases hc:lt (gd p n) (gd p (n -1))with
  |true=>
   show OkT N lt (if true=true then(if 0>0 then _ else _)else _) _
   rw[if_pos rfl,if_neg (by decide)]
   exact OkT.mono (λm hm=>⟨hm.1,by omega,by omega,hm.2.2.2⟩) (ziR S hp f (n+1) (by omega) (by omega) (hs.snoc S hp h1 (by omega) hc))
  |false=>
   show OkT N lt (if false=true then _ else _) _
   rw[if_neg (by decide)]
   refine⟨hp.bd (by omega),hp.bd (by omega),?_⟩
   have hd:lt (gd p (n -1)) (gd p n)=true:=S.tot _ _ (hp.bd (by omega)) (hp.bd (by omega)) (hp.inj (by omega) (by omega) (by omega)) hc
   show OkT N lt (if lt (gd p (n -1)) (gd p n)=true then _ else _) _
   rw[if_pos hd]
   exact⟨rfl,Nat.le_refl _,by show n<=n+(f+1);omega,hs,rfl⟩
theorem zgR{p:Array Nat}(hp:PermN N p)(n:Nat):PermN N (kas_rev p 0 n):=(Array.perm_iff_toList_perm.mp (mirror_perm p 0 n _)).trans hp
theorem znt{p:Array Nat}{n:Nat}(hp:PermN N p)(hn:n<=N)(h:Des lt p n):Sor lt (kas_rev p 0 n) n:=by
 have hs:=hp.size
 have e:∀k,k<n->gd (kas_rev p 0 n) k=gd p (n -1 -k):=λk hk=>by
  refine zgh ?_
  show(mirror p 0 n ((n -0)/2))[k]?=_
  rw[getElem?_mirror_all (by omega),if_pos ⟨Nat.zero_le _,hk⟩,Nat.zero_add]
 intro i j hij hj
 rw[e i (by omega),e j hj]
 exact h (n -1 -j) (n -1 -i) (by omega) (by omega)
def zll(N:Nat)(lt:Nat->Nat->Bool)(r:Nat×Array Nat):Prop:=PermN N r.2/\Sor lt r.2 r.1/\1<=r.1/\r.1<=N
theorem zk6{p:Array Nat}{n:Nat}(S:Strict N lt)(hp:PermN N p)(h1:1<=n)(hn:n<=N)(h:Des lt p n):OkT N lt (kas_tail3 n N p) (zll N lt):=by
 refine OkT.bind (OkT.mono (λm hm=>?_) (zhL S (zgR hp n) (N -n) n h1 (by omega) (znt hp hn h)))
 exact⟨zgR hp n,hm.2.2.1,by have:=hm.1;omega,by have:=hm.2.1;omega⟩
theorem zlO{p:Array Nat}(S:Strict N lt)(hp:PermN N p)(h1:1<=N):OkT N lt (kas_count N p) (zll N lt):=by
 refine OkT.bind (OkT.mono (λn hn=>?_) (zhL S hp (N -1) 1 (Nat.le_refl _) (by omega) (λi j hij hj=>by omega)))
 obtain⟨n1,n2,hs,hl⟩:=hn
 by_cases hN:(n==N)=true
 ·rw[if_pos hN]
  exact⟨hp,hs,n1,by omega⟩
 ·have hne:n≠N:=by simpa using hN
  rw[if_neg hN]
  by_cases h2:n>1
  ·rw[if_pos h2]
   refine⟨hp.bd (by omega),hp.bd (by omega),?_⟩
   show OkT N lt (if lt (gd p 0) (gd p (n -1))=true then _ else _) _
   rw[if_pos (hs 0 (n -1) (by omega) (by omega))]
   exact⟨hp,hs,n1,by omega⟩
  ·rw[if_neg h2]
   have e1:n=1:=by omega
   subst e1
   have hd:Des lt p 2:=λi j hij hj=>by
    have ei:i=0:=by omega
    have ej:j=1:=by omega
    subst ei ej
    exact hl (by omega)
   refine OkT.bind (OkT.mono (λr hr=>?_) (ziR S hp (N -(1+1)) (1+1) (by omega) (by omega) hd))
   obtain⟨e1,r1,r2,r3,r4⟩:=hr
   rw[if_neg (by omega),e1]
   exact zk6 S hp (by omega) (by omega) r3
theorem zeQ{p:Array Nat}{k:Nat}(S:Strict N lt)(hp:PermN N p)(hs:Sor lt p k)(hk:k<N):∀f l r,l<=r->r<=k->r -l<=f->(∀i,i<l->lt (gd p i) (gd p k)=true)->(∀i,r<=i->i<k->lt (gd p k) (gd p i)=true)->
 OkT N lt (kas_place p k f l r) (λm=>m<=k/\(∀i,i<m->lt (gd p i) (gd p k)=true)/\∀i,m<=i->i<k->lt (gd p k) (gd p i)=true)
 |0,l,r,h1,h2,h3,ha,hb=>⟨by omega,ha,λi hi=>hb i (by omega)⟩
 |f+1,l,r,h1,h2,h3,ha,hb=>by
  by_cases hlr:l≥r
  ·show OkT N lt (if l≥r then _ else _) _
   rw[if_pos hlr]
   exact⟨by omega,ha,λi hi=>hb i (by omega)⟩
  ·show OkT N lt (if l≥r then _ else _) _
   rw[if_neg hlr]
   refine⟨hp.bd hk,hp.bd (by omega),?_⟩
   cases hc:lt (gd p k) (gd p ((l+r)/2))with
   |true=>
    show OkT N lt (if true=true then _ else _) _
    rw[if_pos rfl]
    refine zeQ S hp hs hk f l ((l+r)/2) (by omega) (by omega) (by omega) ha λi hi hik=>?_
    by_cases e:i=(l+r)/2
    ·subst e;exact hc
    ·exact S.tr _ _ _ (hp.bd hk) (hp.bd (by omega)) (hp.bd (by omega)) hc (hs ((l+r)/2) i (by omega) hik)
   |false=>
    show OkT N lt (if false=true then _ else _) _
    rw[if_neg (by decide)]
    have hm:lt (gd p ((l+r)/2)) (gd p k)=true:=S.tot _ _ (hp.bd hk) (hp.bd (by omega)) (hp.inj hk (by omega) (by omega)) hc
    refine zeQ S hp hs hk f ((l+r)/2+1) r (by omega) h2 (by omega) (λi hi=>?_) hb
    by_cases e:i=(l+r)/2
    ·subst e;exact hm
    ·exact S.tr _ _ _ (hp.bd (by omega)) (hp.bd (by omega)) (hp.bd hk) (hs i ((l+r)/2) (by omega) (by omega)) hm
theorem zhP{p:Array Nat}{k l:Nat}(hp:PermN N p)(hk:k<N)(hl:l<=k)(hs:Sor lt p k)(ha:∀i,i<l->lt (gd p i) (gd p k)=true)(hb:∀i,l<=i->i<k->lt (gd p k) (gd p i)=true):Sor lt (bubble p k (k -l)) (k+1):=by
 have hz:=hp.size
 have g:∀i,(bubble p k (k -l))[i]?=if i=l then p[k]? else if l<i/\i<=k then p[i -1]? else p[i]?:=λi=>by
  rw[getElem?_bubble (by omega) (k -l) (by omega),show k -(k -l)=l by omega]
 have g1:gd (bubble p k (k -l)) l=gd p k:=zgh (by rw[g,if_pos rfl])
 have g2:∀i,l<i->i<=k->gd (bubble p k (k -l)) i=gd p (i -1):=λi h1 h2=>zgh (by rw[g,if_neg (by omega),if_pos ⟨h1,h2⟩])
 have g3:∀i,i<l->gd (bubble p k (k -l)) i=gd p i:=λi h1=>zgh (by rw[g,if_neg (by omega),if_neg (by omega)])
 intro i j hij hj
 rcases Nat.lt_trichotomy i l with hi|hi|hi
 ·rw[g3 i hi]
  rcases Nat.lt_trichotomy j l with h|h|h
  ·rw[g3 j h];exact hs i j hij (by omega)
  ·subst h;rw[g1];exact ha i hi
  ·rw[g2 j h (by omega)];exact hs i (j -1) (by omega) (by omega)
 ·subst hi
  rw[g1,g2 j hij (by omega)]
  exact hb (j -1) (by omega) (by omega)
 ·rw[g2 i hi (by omega),g2 j (by omega) (by omega)]
  exact hs (i -1) (j -1) (by omega) (by omega)
theorem zkI(S:Strict N lt):∀f (p:Array Nat) k,PermN N p->Sor lt p k->k+f=N->OkT N lt (kas_bin f p k) (λp'=>PermN N p'/\Sor lt p' N)
 |0,p,k,hp,hs,hk=>⟨hp,by have:k=N:=by omega
                         rw[←this];exact hs⟩
 |f+1,p,k,hp,hs,hk=>by
  refine OkT.bind (OkT.mono (λl hl=>?_) (zeQ S hp hs (by omega) k 0 k (Nat.zero_le _) (Nat.le_refl _) (by omega) (λi hi=>by omega) (λi hi hik=>by omega)))
  exact zkI S f _ (k+1) ((Array.perm_iff_toList_perm.mp (bubble_perm p k _)).trans hp) (zhP hp (by omega) hl.1 hs hl.2.1 hl.2.2) (by omega)
theorem sort_ok(S:Strict N lt)(h1:1<=N):OkT N lt (kas_sort N) (λp=>PermN N p/\Sor lt p N):=by
 have h0:PermN N (List.toArray (List.range N)):=by show(List.range N).Perm _;exact List.Perm.refl _
 refine OkT.bind (OkT.mono (λr hr=>?_) (zlO S h0 h1))
 obtain⟨c1,c2,c3,c4⟩:=hr
 by_cases h:r.1<N
 ·rw[if_pos h]
  have e:max r.1 1=r.1:=by omega
  rw[e]
  exact zkI S _ _ _ c1 c2 (by omega)
 ·rw[if_neg h]
  have e:r.1=N:=by omega
  rw[e] at c2
  exact⟨c1,c2⟩
end
end RW
namespace L2
open PySem PySem.W PySem.Spec PyProof.Rows
def RawD(h:Heap)(d:Addr)(ks:List Value)(ep:Nat):Prop:=∃o es,h.get? d=some o/\o.ExactDict/\o.data= .dict es ep/\es.toList.map (·.key)=ks
theorem RawD.at{h h':Heap}{d:Addr}{ks:List Value}{ep:Nat}(x:RawD h d ks ep)(e:∀o,h.get? d=some o->h'.get? d=some o):RawD h' d ks ep:=let⟨o,es,ho,r⟩:=x;⟨o,es,e _ ho,r⟩
theorem RawD.ty{s:Shared}{d:Addr}{ks:List Value}{ep:Nat}(x:RawD s.heap d ks ep):s.TypeIs (.ref d) "dict":=let⟨o,_,ho,hc,_⟩:=x;⟨o,ho,hc.1⟩
theorem RawD.lt{h:Heap}{d:Addr}{ks:List Value}{ep:Nat}(x:RawD h d ks ep):d<h.objs.size:=let⟨_,_,ho,_⟩:=x;Heap.lt_size ho
section
variable{prog:Program}{w:World}{A:Around}{E:Value->Shared->Prop}{s:Shared}{it d:Addr}{i ep:Nat}{ks:List Value}
theorem zlo{R:Value->Shared->Prop}(nsys:(d==sysModules)=false)(x:RawD s.heap d ks ep)(q:R (.ref s.heap.objs.size) {s with heap:=s.heap.push {cls:= .type "dict_keyiterator",data:= .fields #[.ref d, .int 0 0, .int ks.length 0, .int ep 0]}}):
 wpAny (model prog w) A (pyIter (.ref d)) R E s:=by
 have ty:=x.ty
 obtain⟨o,es,ho,_,hdat,hks⟩:=x
 refine wpAny_pyIter_slot ty PySem.F.slot_dict_iter (wpAny_call_entry PySem.F.slot_dict_iter ty PySem.F.entry_dict_iter ?_ (PySem.F.args_dict_iter_1 _))
 unfold Builtin.«dict.__iter__»
 refine wpAny_bind (by unfold Builtin.Dict.dictSlotNone;refine wpAny_bind (wpAny_notOrdered_dict ty ?_);show wpAny _ _ (pure (Value.ref d)) _ _ s;exact wpAny_pure (by
  show wpAny _ _ (Builtin.Dict.showsAll d>>=_) _ _ s
  unfold Builtin.Dict.showsAll
  rw[if_neg (λz=>by rw[nsys] at z;cases z)]
  refine wpAny_bind (wpAny_pure (wpAny_bind (wpAny_dictEntries ho hdat (wpAny_bind (wpAny_dictEpoch ho hdat ?_)))))
  have sz:es.size=ks.length:=by rw[←hks];simp
  refine wpAny_bind (wpAny_newObj_type (wpAny_pure ⟨_,rfl,"dict_keyiterator",_,⟨_,Heap.get?_push_size _ rfl,rfl⟩,PySem.F.slot_dict_keyiterator_next.lookup,?_⟩))
  simpa[rawInt,sz] using q))
theorem zlN{R:Option Value->Shared->Prop}{key:Value}(y:s.heap.IsKeyIter it d i ks.length ep)(x:RawD s.heap d ks ep)(hx:ks[i]?=some key)
 (q:∀h',h'.IsKeyIter it d (i+1) ks.length ep->Heap.SameBut it s.heap h'->R (some key) {s with heap:=h'}):wpAny (model prog w) A (pyNext (.ref it)) R E s:=by
 obtain⟨o,ho,hc,hd⟩:=id y
 obtain⟨od,es,hod,_,hdd,hks⟩:=x
 have sz:es.size=ks.length:=by rw[←hks];simp
 have li:i<ks.length:=by
  rcases Nat.lt_or_ge i ks.length with h|h
  ·exact h
  ·rw[List.getElem?_eq_none h] at hx;cases hx
 have li':i<es.size:=by omega
 have ek:es[i].key=key:=by
  have e1:ks[i]?=some es[i].key:=by rw[←hks];simp[li']
  rw[e1] at hx;exact Option.some.inj hx
 unfold pyNext
 refine wpAny_bind (wpAny_attempt (wpAny_callSpecial?_slot (name:=Str.ofString "__next__") y.typeIs PySem.F.slot_dict_keyiterator_next (wpAny_call_entry PySem.F.slot_dict_keyiterator_next y.typeIs PySem.F.entry_dict_keyiterator_next ?_ (PySem.F.args_dict_keyiterator_next_1 _))))
 refine wpAny_bind (wpAny_pure (wpAny_bind (wpAny_bind ?_)))
 first|refine wpAny_bind (wpAny_typeNameOfWhole_keyiter y.typeIs (wpAny_pure ?_))|refine wpAny_bind (wpAny_typeNameOf_keyiter y.typeIs (wpAny_pure ?_))
 refine wpAny_bind (wpAny_fieldsOf ho hd ?_)
 simp only[(by decide:Builtin.Dict_items.ownsTuple "dict_keyiterator"=false),Bool.false_eq_true,if_false]
 show wpAny _ _ (if(Value.ref d==Value.none)=true then _ else _) _ _ s
 rw[if_neg (λz=>nomatch z)]
 refine wpAny_bind (wpAny_pure (wpAny_bind (wpAny_dictEntries hod hdd ?_)))
 rw[if_neg (λz=>by rw[sz] at z;simp at z)]
 refine wpAny_bind (wpAny_pure (wpAny_bind (wpAny_dictEpoch hod hdd ?_)))
 rw[if_neg (λz=>by simp at z)]
 refine wpAny_pure ?_
 simp only[(by omega:¬((i:Int)<0)),if_false,Int.toNat_natCast,Array.getElem?_eq_getElem li']
 refine wpAny_bind ?_
 first|refine wpAny_bind (wpAny_typeNameOfWhole_keyiter y.typeIs (wpAny_pure ?_))|refine wpAny_bind (wpAny_typeNameOf_keyiter y.typeIs (wpAny_pure ?_))
 refine wpAny_bind (wpAny_isOneOf_keyiter y.typeIs ?_)
 show wpAny _ _ (setField (.ref it) 1 (rawInt ((i:Int)+1))>>=_) _ _ s
 refine wpAny_bind (wpAny_setField ho hd (by simp) ?_)
 have y':(s.heap.update it (Obj.mapFields (·.setIfInBounds 1 (rawInt ((i:Int)+1))))).IsKeyIter it d (i+1) ks.length ep:=⟨_,Heap.get?_update_self _ ho (Obj.isFreed_of_fields (Obj.data_mapFields hd _)),(Obj.cls_mapFields ..).trans hc,by rw[Obj.data_mapFields hd];simp[rawInt]⟩
 refine wpAny_bind (wpAny_holding (wpAny_bind (wpAny_isOneOf_keyiter (s:={s with heap:=s.heap.update it (Obj.mapFields (·.setIfInBounds 1 (rawInt ((i:Int)+1))))}) y'.typeIs ?_)))
 show wpAny _ _ (pure es[i].key) _ _ _
 rw[ek]
 exact wpAny_pure (wpAny_pure ⟨_,rfl,wpAny_pure (q _ y' (Heap.SameBut.update ..))⟩)
theorem zms{R:Option Value->Shared->Prop}(hh:A.handled=none)(y:s.heap.IsKeyIter it d ks.length ks.length ep)(x:RawD s.heap d ks ep)(q:∀h',Heap.ExtBut it s.heap h'->R none {s with heap:=h'}):wpAny (model prog w) A (pyNext (.ref it)) R E s:=by
 obtain⟨o,ho,hc,hd⟩:=id y
 obtain⟨od,es,hod,_,hdd,hks⟩:=x
 have sz:es.size=ks.length:=by rw[←hks];simp
 unfold pyNext
 refine wpAny_bind (wpAny_attempt (wpAny_callSpecial?_slot (name:=Str.ofString "__next__") y.typeIs PySem.F.slot_dict_keyiterator_next (wpAny_call_entry PySem.F.slot_dict_keyiterator_next y.typeIs PySem.F.entry_dict_keyiterator_next ?_ (PySem.F.args_dict_keyiterator_next_1 _))))
 refine wpAny_bind (wpAny_pure (wpAny_bind (wpAny_bind ?_)))
 first|refine wpAny_bind (wpAny_typeNameOfWhole_keyiter y.typeIs (wpAny_pure ?_))|refine wpAny_bind (wpAny_typeNameOf_keyiter y.typeIs (wpAny_pure ?_))
 refine wpAny_bind (wpAny_fieldsOf ho hd ?_)
 simp only[(by decide:Builtin.Dict_items.ownsTuple "dict_keyiterator"=false),Bool.false_eq_true,if_false]
 show wpAny _ _ (if(Value.ref d==Value.none)=true then _ else _) _ _ s
 rw[if_neg (λz=>nomatch z)]
 refine wpAny_bind (wpAny_pure (wpAny_bind (wpAny_dictEntries hod hdd ?_)))
 rw[if_neg (λz=>by rw[sz] at z;simp at z)]
 refine wpAny_bind (wpAny_pure (wpAny_bind (wpAny_dictEpoch hod hdd ?_)))
 rw[if_neg (λz=>by simp at z)]
 refine wpAny_pure ?_
 simp only[(by omega:¬((ks.length:Int)<0)),if_false,Int.toNat_natCast,Array.getElem?_eq_none (show es.size<=ks.length by omega)]
 refine wpAny_bind ?_
 first|refine wpAny_bind (wpAny_typeNameOfWhole_keyiter y.typeIs (wpAny_pure ?_))|refine wpAny_bind (wpAny_typeNameOf_keyiter y.typeIs (wpAny_pure ?_))
 show wpAny _ _ (setField (.ref it) 0 .none>>=_) _ _ s
 refine wpAny_bind (wpAny_setField ho hd (by simp) ?_)
 show wpAny _ _ (newExc (.type "StopIteration") []>>=_) _ _ _
 refine wpAny_bind (by
  simp only[newExc,newTuple]
  refine wpAny_bind (wpAny_newObj_type (wpAny_bind (m:=firstArgMember _ _) (wpAny_of_eq (a:=Value.none) (by first|rfl|(simp only[firstArgMember];rfl)) (wpAny_newObj_type ?_ (by size_fits)))) (by size_fits))
  simp only[raiseNew]
  refine wpAny_bind (wpAny_handled ?_)
  rw[show A.in1.handled=none from hh]
  refine wpAny_bind (wpAny_pure (wpAny_throw ?_));refine wpAny_bind (wpAny_isInstance (T:="StopIteration") (b:=true) ⟨_,Heap.get?_push_size _ rfl,rfl⟩ isSubtype_stop ?_)
  exact wpAny_pure (q _ (((Heap.SameBut.update ..).extBut.push _).push _)))
theorem zjh(hh:A.handled=none)(hne:d≠it):Walks prog w A it [it,d] [it] ks.length (λi v=>ks[i]?=some v) (λi h=>h.IsKeyIter it d i ks.length ep/\RawD h d ks ep) where
 sub:=λb hb=>by simp at hb;simp[hb]
 frame:=λ_ _ _ st hk=>⟨st.1.at λo e=>hk it (by simp) o e,st.2.at λo e=>hk d (by simp) o e⟩
 item:=λi s Q E hi st hQ=>zlN st.1 st.2 (show ks[i]?=some ks[i] by simp[hi]) λh' y' hs=>hQ _ h' s.toks (by simp[hi]) ⟨y',st.2.at λo e=>hs.extBut d o hne e⟩ λb o hb e=>hs.extBut b o (λh=>hb (by simp[h])) e
 done:=λs Q E st hQ=>zms hh st.1 st.2 λh' he=>hQ h' s.toks λb o hb e=>he b o (λh=>hb (by simp[h])) e
 self:=λ_ _ _ _ st hQ=>wpAny_pyIter_keyiter st.1 hQ
theorem zmj(nsys:(d==sysModules)=false):KdlSrc prog w "dict" d d ks.length (λi v=>ks[i]?=some v) (λh=>RawD h d ks ep) where
 type:=λ_ hm=>hm.ty
 there:=λ_ hm=>⟨hm.lt,hm.lt⟩
 keep:=λ_ _ hm hk=>hm.at λo e=>hk d (.inl rfl) o e
 notList:=by decide
 notTuple:=by decide
 hint:=λ_ _ _ _ hm hq=>kdl_hint_dict hm.ty hq
 iter:=λ_ _ hh hm=>⟨_,_,(λ_ _ hq=>zlo nsys hm hq),zjh hh (Nat.ne_of_lt hm.lt),⟨⟨_,Heap.get?_push_size _ rfl,rfl,rfl⟩,hm.at λo e=>Heap.get?_push_of_some _ e⟩⟩
end
section
variable{prog:Program}{w:World}{A:Around}{E:Value->Shared->Prop}{s:Shared}
def Kp(a:Addr)(s s1:Shared):Prop:=s1={s with heap:=s1.heap}/\∀b o,b≠a->s.heap.get? b=some o->s1.heap.get? b=some o
theorem zfA{a:Addr}{vs:List Value}{n:Nat}{R:PySem.Fin->Shared->Prop}{G:Array Nat->Prop}{κ:SortKind}(ho:s.heap.get? a=some (seqObj "list" vs.toArray n))(h64:vs.length<64)
 (hk:2<=vs.length->∀s1:Shared,Kp a s s1->(∀C:SortKind->Shared->Prop,C κ s1->wpAny (model prog w) A (keyKind' vs.toArray) C E s1)/\(kas_sort vs.length).kasWp (kas_ask prog w A κ vs) (λp s'=>s'=s1/\G p) s1)
 (q:∀(out:List Value) (h':Heap) (c:Nat),(vs.length<2/\out=vs\/∃p:Array Nat,p.size=vs.length/\G p/\out=p.toList.map λi=>vs.getD i Value.none)->(∀b o,b≠a->s.heap.get? b=some o->h'.get? b=some o)->
   h'.get? a=some (seqObj "list" out.toArray c)->R (.done (.ret .none)) {s with heap:=h'}):wpAny (model prog w) A (Builtin.«list.sort» ⟨[.ref a],[]⟩) R E s:=by
 have la:a<s.heap.objs.size:=Heap.lt_size ho
 have lz:vs.toArray.size=vs.length:=List.size_toArray ..
 have u1:=Heap.SameBut.update s.heap a (Obj.mapSeq λ_=>(#[]:Array Value))
 obtain⟨e1,g1⟩:∃e1,(s.heap.update a (Obj.mapSeq λ_=>(#[]:Array Value))).get? a=some (seqObj "list" #[] e1):=⟨_,get?_update_seq ho λ_=> #[]⟩
 rw[list_sort_plain]
 refine wpAny_bind (listItems_at ho rfl (wpAny_bind (listUpdate_at ho rfl (wpAny_bind (seqEpoch_at g1 rfl (wpAny_bind (wpAny_newTuple (wpAny_bind (wpAny_newList (wpAny_holding ?_) (Nat.zero_le _))) (by show vs.length<=_;rw[sizeLine_eq];omega))))) (by rw[lz,sizeLine_eq];omega) (Nat.zero_le _))))
 generalize hs1:({s with heap:=((s.heap.update a (Obj.mapSeq λ_=>(#[]:Array Value))).push (seqObj "tuple" vs.toArray 0)).push (seqObj "list" #[] 0)}:Shared)=s1
 have kp:∀b o,(s.heap.update a (Obj.mapSeq λ_=>(#[]:Array Value))).get? b=some o->s1.heap.get? b=some o:=λb o e=>by rw[←hs1];exact Heap.get?_push_of_some _ (Heap.get?_push_of_some _ e)
 have k1:Kp a s s1:=⟨by rw[←hs1],λb o nb e=>kp b o ((u1.2 b nb).trans e)⟩
 have g2:s1.heap.get? a=some (seqObj "list" #[] e1):=kp a _ g1
 dsimp only
 have fin:∀(st:SortSt) (out:List Value),(arrOf st).map (·.2)=out.toArray->failedOf st=none->out.length<64->(vs.length<2/\out=vs\/∃p:Array Nat,p.size=vs.length/\G p/\out=p.toList.map λi=>vs.getD i Value.none)->
  wpAny (model prog w) A (do
   let touched:=(←seqEpoch a) !=e1
   Builtin.List.listUpdate (.ref a) λ_=>(arrOf st).map (·.2)
   if let some e:=failedOf st then rule "list.sort.comparison-raised";throw e
   if touched then rule "list.sort.modified";raiseError "ValueError" "list modified during sort"
   ret .none) R E s1:=by
  intro st out ho hf hl hc
  rw[ho]
  have u2:=Heap.SameBut.update s1.heap a (Obj.mapSeq λ_=>out.toArray)
  obtain⟨c2,g3⟩:∃c2,(s1.heap.update a (Obj.mapSeq λ_=>out.toArray)).get? a=some (seqObj "list" out.toArray c2):=⟨_,get?_update_seq g2 λ_=>out.toArray⟩
  refine wpAny_bind (seqEpoch_at g2 rfl (wpAny_bind (listUpdate_at g2 rfl ?_ (Nat.zero_le _) (by show out.toArray.size<=_;rw[List.size_toArray,sizeLine_eq];omega))))
  rw[hf]
  simp only[bne_self_eq_false,Bool.false_eq_true,if_false]
  have:=q out _ c2 hc (λb o nb e=>(u2.2 b nb).trans (k1.2 b o nb e)) g3
  rw[k1.1]
  exact wpAny_pure this
 by_cases h2:vs.toArray.size<2
 ·rw[if_pos h2,if_pos h2]
  refine wpAny_bind (wpAny_pure ?_)
  rw[StateT.run_pure]
  refine wpAny_bind (wpAny_pure ?_)
  refine fin _ vs ?_ rfl h64 (.inl ⟨by omega,rfl⟩)
  apply Array.toList_inj.mp
  show((vs.toArray.zip vs.toArray).map (·.2)).toList=_
  rw[Array.toList_map,Array.toList_zip]
  exact List.map_snd_zip (Nat.le_refl _)
 ·rw[if_neg h2,if_neg h2]
  obtain⟨hkk,hw⟩:=hk (by omega) s1 k1
  refine wpAny_bind (hkk _ ?_)
  refine wpAny_bind (wpAny_mono (kat_run (E:=E) (Q:=λst' s'=>s'=s1/\∃p:Array Nat,p.size=vs.length/\arrOf st'=p.map (kas_item (vs.toArray.zip vs.toArray))/\failedOf st'=none/\G p) rfl (by omega) h64 (λp st' s' x1 x2 x3 x4=>⟨x4.1,p,x1,x2,x3,x4.2⟩) hw) ?_ λ_ _ e=>e)
  rintro⟨⟨⟩,st'⟩ s' ⟨rfl,p,hp,har,hf,hG⟩
  refine fin st' (p.toList.map λi=>vs.getD i Value.none) (kat_snds rfl har) hf (by rw[List.length_map,Array.length_toList,hp];exact h64) (.inr ⟨p,hp,hG,rfl⟩)
theorem zhH{r d:Addr}{T:String}{n:Nat}{Pn:Nat->Value->Prop}{OK:Heap->Prop}{R:List Value->Shared->Prop}(K:KdlSrc prog w T r d n Pn OK)(hh:A.handled=none)(hok:OK s.heap)(hn:n<=sizeLine)
 (q:∀(h':Heap) (tk:Nat) (acc:Array Value),(∀b o,s.heap.get? b=some o->h'.get? b=some o)->s.heap.objs.size<h'.objs.size->ItemsOf Pn acc n->R acc.toList {s with heap:=h',toks:=tk}):wpAny (model prog w) A (collect (.ref r)) R E s:=by
 have lt:=K.there _ hok
 have g0:(s.heap.push {cls:= .type "list",data:= .seq ([]:List Value).toArray}).get? s.heap.objs.size=some {cls:= .type "list",data:= .seq #[]}:=Heap.get?_push_size _ rfl
 have key:=kdl_extend (A:=A) (s:={s with heap:=s.heap.push {cls:= .type "list",data:= .seq ([]:List Value).toArray}}) (R:=λ(f:Result) (s':Shared)=>∃(h':Heap) (tk:Nat) (acc':Array Value) (c':Nat),f= .ok (.ret (.ref s.heap.objs.size))/\s'={s with heap:=h',toks:=tk}/\(∀b o,s.heap.get? b=some o->h'.get? b=some o)/\h'.get? s.heap.objs.size=some {cls:= .type "list",dict:=none,data:= .seq acc' c',slots:= #[]}/\ItemsOf Pn acc' n)
  K hh (K.keep _ _ hok λb _ o e=>Heap.get?_push_of_some _ e) s.heap.objs.size (Nat.ne_of_gt lt.1) (Nat.ne_of_gt lt.2) (.ref s.heap.objs.size) 0 g0 (λh' tk acc' c' kp gS ia=>⟨h',tk,acc',c',rfl,rfl,λb o e=>kp b o (Nat.ne_of_lt (Heap.lt_size e)) (Heap.get?_push_of_some _ e),gS,ia⟩) hn
 unfold collect
 refine wpAny_bind (wpAny_runValue (codeAny_builtin entry_proto_collect' (by
  rw[Around.under_plainId PySem.F.plain_proto_collect _]
  show wpAny _ A.in1 (newList []>>=λl=>again (.builtin "list.__iadd__" ⟨[l, .ref r],[]⟩)) _ _ s
  refine wpAny_bind (wpAny_newObj_type (wpAny_pure ⟨plainId_quiet PySem.F.plain_list_iadd _,codeAny_builtin entry_list_iadd' (by
   rw[Around.under_plainId PySem.F.plain_list_iadd _]
   show wpAny _ A.in1 (Builtin.List.listExtendWith (.ref s.heap.objs.size) (.ref r) (.ref s.heap.objs.size)) _ _ _
   refine wpAny_mono key (λfin s' x=>?_) λe s' x=>?_
   ·cases fin with
    |done f=>
     obtain⟨h',tk,acc',c',e,rfl,kp,gS,ia⟩:=x;cases e
     show wpAny _ A (load s.heap.objs.size>>=_) _ _ _
     exact wpAny_bind (wpAny_load gS (wpAny_pure (q h' tk acc' kp (Heap.lt_size gS) ia)))
    |again c₁=>
     refine⟨x.1,codeAny_mono x.2 λf s₂ y=>?_⟩
     obtain⟨h',tk,acc',c',rfl,rfl,kp,gS,ia⟩:=y
     show wpAny _ A (load s.heap.objs.size>>=_) _ _ _
     exact wpAny_bind (wpAny_load gS (wpAny_pure (q h' tk acc' kp (Heap.lt_size gS) ia)))
   ·obtain ⟨_,_,_,_,e',_⟩:=x
    cases e')⟩)))))
theorem zh1{r d:Addr}{T:String}{OK:Heap->Prop}{ks:List Value}{R:Value->Shared->Prop}{G:Array Nat->Prop}{κ:SortKind}(K:KdlSrc prog w T r d ks.length (λi v=>ks[i]?=some v) OK)(hh:A.handled=none)(hok:OK s.heap)(h64:ks.length<64)
 (hk:2<=ks.length->∀s1:Shared,(∀b o,s.heap.get? b=some o->s1.heap.get? b=some o)->(∀C:SortKind->Shared->Prop,C κ s1->wpAny (model prog w) A.in1.in1 (keyKind' ks.toArray) C (λ_ _=>False) s1)/\(kas_sort ks.length).kasWp (kas_ask prog w A.in1.in1 κ ks) (λp s'=>s'=s1/\G p) s1)
 (q:∀(D:Addr) (out:List Value) (h':Heap) (tk c:Nat),(ks.length<2/\out=ks\/∃p:Array Nat,p.size=ks.length/\G p/\out=p.toList.map λi=>ks.getD i Value.none)->(∀b o,s.heap.get? b=some o->h'.get? b=some o)->
   s.heap.objs.size<=D->h'.get? D=some (seqObj "list" out.toArray c)->R (.ref D) {s with heap:=h',toks:=tk}):wpAny (model prog w) A (call (.builtin "sorted") [.ref r]) R E s:=by
 refine Calls.call_function_entry kind_sorted plain_sorted entry_sorted (args_sorted1 _) ?_
 unfold Builtin.«sorted»
 refine wpAny_bind (m:=checkCount "sorted" 1 1 _) (wpAny_pure (wpAny_bind (zhH (A:=A.in1) K hh hok (by rw[sizeLine_eq];omega) λh1 tk acc kp gr0 hacc=>?_)))
 have ea:acc.toList=ks:=by
  apply List.ext_getElem?
  intro i
  rcases Nat.lt_or_ge i ks.length with h|h
  ·have hi:i<acc.size:=by rw[hacc.1];exact h
   rw[Array.getElem?_toList,Array.getElem?_eq_getElem hi]
   exact(hacc.2 i acc[i] (by rw[Array.getElem?_eq_getElem hi])).symm
  ·rw[List.getElem?_eq_none h,List.getElem?_eq_none (by rw[Array.length_toList,hacc.1];exact h)]
 rw[ea]
 refine wpAny_bind (wpAny_newList ?_ (by rw[sizeLine_eq];omega))
 have hD:(h1.push (seqObj "list" ks.toArray 0)).get? h1.objs.size=some (seqObj "list" ks.toArray 0):=Heap.get?_push_size _ rfl
 have k2:∀b o,s.heap.get? b=some o->(h1.push (seqObj "list" ks.toArray 0)).get? b=some o:=λb o e=>Heap.get?_push_of_some _ (kp b o e)
 have gr:s.heap.objs.size<=h1.objs.size:=Nat.le_of_lt gr0
 show wpAny _ _ _ _ _ {s with heap:=h1.push (seqObj "list" ks.toArray 0),toks:=tk}
 refine wpAny_bind (wpAny_holding (wpAny_call_entry slot_list_sort ⟨_,hD,rfl⟩ entry_list_sort (zfA (G:=G) (κ:=κ) (s:={s with heap:=h1.push (seqObj "list" ks.toArray 0),toks:=tk}) hD h64 (λh2 s1 k1=>?_) λout h' c hc hkp hg=>?_) (args_list_sort _)))
 ·obtain ⟨x1,x2⟩:=hk h2 s1 λb o e=>k1.2 b o (Nat.ne_of_lt (Nat.lt_of_lt_of_le (Heap.lt_size e) gr)) (k2 b o e)
  exact⟨λC hC=>wpAny_mono (x1 C hC) (λ_ _ z=>z) λ_ _ z=>z.elim,x2⟩
 ·exact ⟨_,rfl,wpAny_pure ⟨_,rfl,q h1.objs.size out h' tk c hc (λb o e=>hkp b o (Nat.ne_of_lt (Nat.lt_of_lt_of_le (Heap.lt_size e) gr)) (k2 b o e)) gr hg⟩⟩
end
abbrev ltS(x y:Str):Bool:=decide (x.cps.toList<y.cps.toList)
def ltP(p q:Str×Str):Bool:=if p.1=q.1 then(if p.2=q.2 then false else ltS p.2 q.2)else ltS p.1 q.1
theorem ziZ:∀(a b:List Nat),a≠b->¬a<b->b<a
 |[],[],h,_=>absurd rfl h
 |[],b::bs,_,h=>absurd (List.nil_lt_cons b bs) h
 |a::as,[],_,_=>List.nil_lt_cons a as
 |a::as,b::bs,h,hn=>by
  rw[List.cons_lt_cons_iff] at hn⊢
  rcases Nat.lt_trichotomy a b with q|q|q
  ·exact absurd (.inl q) hn
  ·subst q
   exact .inr ⟨rfl,ziZ as bs (λz=>h (by rw[z])) (λz=>hn (.inr ⟨rfl,z⟩))⟩
  ·exact .inl q
theorem zig:∀{a b c:List Nat},a<b->b<c->a<c
 |_,[],_,h,_=>absurd h (by simp)
 |_,_::_,[],_,h=>absurd h (by simp)
 |[],_::_,c::cs,_,_=>List.nil_lt_cons c cs
 |a::as,b::bs,c::cs,h1,h2=>by
  rw[List.cons_lt_cons_iff] at h1 h2⊢
  rcases h1 with h1|⟨rfl,h1⟩
  ·rcases h2 with h2|⟨rfl,h2⟩
   ·exact .inl (by omega)
   ·exact .inl h1
  ·rcases h2 with h2|⟨rfl,h2⟩
   ·exact .inl h2
   ·exact .inr ⟨rfl,zig h1 h2⟩
theorem zgy:∀(a:List Nat),¬a<a
 |[],h=>absurd h (by simp)
 |a::as,h=>by
  rw[List.cons_lt_cons_iff] at h
  rcases h with h|⟨_,h⟩
  ·omega
  ·exact zgy as h
theorem zmx{x y:Str}(h:x.cps.toList=y.cps.toList):x=y:=by
 cases x;cases y
 simp only[Str.mk.injEq]
 exact Array.toList_inj.mp h
theorem zbO{x y:Str}(h:x≠y)(e:ltS x y=false):ltS y x=true:=decide_eq_true (ziZ _ _ (λz=>h (zmx z)) (of_decide_eq_false e))
theorem zeD{x y z:Str}(h1:ltS x y=true)(h2:ltS y z=true):ltS x z=true:=decide_eq_true (zig (of_decide_eq_true h1) (of_decide_eq_true h2))
theorem zes(x:Str):ltS x x=false:=decide_eq_false (zgy _)
theorem zcj{x y:Str}(h:ltS x y=true):ltS y x=false:=decide_eq_false λz=>zgy _ (zig (of_decide_eq_true h) z)
theorem zhK{x y:Str}(h:ltS x y=true):x≠y:=λz=>by rw[z,zes] at h;cases h
theorem zmv{p q:Str×Str}(h:p≠q)(e:ltP p q=false):ltP q p=true:=by
 unfold ltP at e⊢
 by_cases h1:p.1=q.1
 ·rw[if_pos h1] at e
  rw[if_pos h1.symm]
  have h2:p.2≠q.2:=λz=>h (Prod.ext h1 z)
  rw[if_neg h2] at e
  rw[if_neg (Ne.symm h2)]
  exact zbO h2 e
 ·rw[if_neg h1] at e
  rw[if_neg (Ne.symm h1)]
  exact zbO h1 e
theorem zkW{p q r:Str×Str}(h1:ltP p q=true)(h2:ltP q r=true):ltP p r=true:=by
 unfold ltP at h1 h2⊢
 by_cases e1:p.1=q.1
 ·rw[if_pos e1] at h1
  by_cases e2:q.1=r.1
  ·rw[if_pos e2] at h2
   rw[if_pos (e1.trans e2)]
   by_cases f1:p.2=q.2
   ·rw[if_pos f1] at h1;cases h1
   ·by_cases f2:q.2=r.2
    ·rw[if_pos f2] at h2;cases h2
    ·rw[if_neg f1] at h1
     rw[if_neg f2] at h2
     have:=zeD h1 h2
     rw[if_neg (zhK this)];exact this
  ·rw[if_neg e2] at h2
   rw[if_neg (by rw[e1];exact e2),e1];exact h2
 ·rw[if_neg e1] at h1
  by_cases e2:q.1=r.1
  ·rw[if_neg (by rw[←e2];exact e1),←e2];exact h1
  ·rw[if_neg e2] at h2
   have:=zeD h1 h2
   rw[if_neg (zhK this)];exact this
theorem zgb(p:Str×Str):ltP p p=false:=by unfold ltP;rw[if_pos rfl,if_pos rfl]
theorem zmt{p q:Str×Str}(h:ltP p q=true):ltP q p=false:=by
 cases e:ltP q p with
 |false=>rfl
 |true=>have:=zkW h e;rw[zgb] at this;cases this
theorem zgd:∀(l:List Str),sortedS l=true->l.Nodup->l.Pairwise (λa b=>ltS a b=true)
 |[],_,_=> .nil
 |[x],_,_=>by simp
 |x::y::r,h,hn=>by
  have h':(!ltCps y.cps.toList x.cps.toList&&risingS y r)=true:=h
  rw[Bool.and_eq_true] at h'
  have hr:sortedS (y::r)=true:=h'.2
  have ih:=zgd (y::r) hr (List.nodup_cons.mp hn).2
  have hxy:ltS x y=true:=by
   have h1:ltS y x=false:=by
    have:=h'.1
    rw[ltCps_eq] at this
    simpa using this
   exact zbO (λz=>(List.nodup_cons.mp hn).1 (by rw[z];exact List.mem_cons_self)) h1
  refine List.pairwise_cons.mpr ⟨λz hz=>?_,ih⟩
  rcases List.mem_cons.mp hz with rfl|hz
  ·exact hxy
  ·exact zeD hxy ((List.pairwise_cons.mp ih).1 z hz)
section
variable{X:Cx}
theorem zfR:CallR X (.builtin "sorted") (λxs H Q=>∃(p:Addr) (ss:List Str),xs=[.ref p]/\SqL X.K H p (ss.map V.str)/\ss.length<64/\ss.Nodup/\∀(ss':List Str) l,ss'.Perm ss->ss'.Pairwise (λa b=>ltS a b=true)->H l=none->Q (.ref l) (upd H l (.lst (ss'.map V.str)))):=by
 intro pins s σ H xs us Q I r h
 obtain⟨p,ss,rfl,hq,h64,hnd,q⟩:=h
 obtain⟨u,rfl,ru⟩:=zb6 r
 cases ru
 obtain⟨its,rv,pl,hz⟩:=I.list hq
 have hS:=zbo rv
 have hl:=rv.length
 rw[List.length_map] at hl
 refine sorted_strs pl.isList hS (by omega) λout ss' a1 a2 a3=>?_
 have nl:H (s.heap.objs.size+1)=none:=I.hok.fresh (Nat.le_succ _)
 obtain⟨e,he⟩:=sortedAll_at s.heap its out
 have hn':ss'.Nodup:=a2.nodup_iff.mpr hnd
 refine⟨.ref _,_,I.laid (a:=s.heap.objs.size+1) (o:= .lst (ss'.map V.str)) (t':=s.toks) (λb o hb=>sortedAll_old hb) (Nat.le_succ _) ⟨?_,out.toList,e,?_,?_⟩,rfl,q ss' _ a2 (zgd ss' a3 hn') nl⟩
 ·rw[List.length_map,a2.length_eq];exact Nat.le_of_lt (zn (by omega))
 ·have mk:∀{vs:List Value} {zs:List Str},StrsAre vs zs->Vals (zs.map V.str) vs:=by
   intro vs zs h
   induction h with
   |nil=>exact .nil
   |cons x t _ ih=>exact .cons ⟨t,rfl⟩ ih
  exact mk a1
 ·rw[Array.toArray_toList];exact he
def zl5(H:Hp)(vs:List V)(ps:List (Str×Str)):Prop:=vs.length=ps.length/\∀(i:Nat) (v:V) (p:Str×Str),vs[i]?=some v->ps[i]?=some p->∃b,v= .ref b/\H b=some (.tup [.str p.1, .str p.2])
def zfj(p:Str×Str):List Key:=[.inr p.1, .inr p.2]
def TupAt(h:Heap)(u:Value)(p:Str×Str):Prop:=∃b o n t1 t2,u= .ref b/\h.get? b=some o/\o.cls= .type "tuple"/\o.data= .seq #[.str p.1 t1, .str p.2 t2] n
theorem TupAt.keeps{h h':Heap}{u:Value}{p:Str×Str}(x:TupAt h u p)(k:∀b o,h.get? b=some o->h'.get? b=some o):TupAt h' u p:=let⟨b,o,n,t1,t2,e,g,r⟩:=x;⟨b,o,n,t1,t2,e,k _ _ g,r⟩
theorem zlQ{prog:Program}{w:World}{A:Around}{E:Value->Shared->Prop}{s:Shared}{u v:Value}{p q:Str×Str}{C:Bool->Shared->Prop}(x:TupAt s.heap u p)(y:TupAt s.heap v q)(h:C (ltP p q) s):wpAny (model prog w) A (keyLt' (tuples' true) u v) C E s:=by
 obtain⟨b,o,n,t1,t2,rfl,g,_,d⟩:=x
 obtain⟨b',o',n',t3,t4,rfl,g',_,d'⟩:=y
 refine kat_lt g d g' d' ?_
 show KatLex prog w A true (decide (2<2)) C [(.str p.1 t1, .str q.1 t3),(.str p.2 t2, .str q.2 t4)] 0 s
 unfold ltP at h
 refine kat_cons (wpAny_eqBool_str ?_)
 by_cases e1:p.1=q.1
 ·rw[if_pos e1] at h
  rw[decide_eq_true e1]
  refine kat_yes (kat_cons (wpAny_eqBool_str ?_))
  by_cases e2:p.2=q.2
  ·rw[if_pos e2] at h
   rw[decide_eq_true e2]
   exact kat_yes (kat_nil h)
  ·rw[if_neg e2] at h
   rw[decide_eq_false e2]
   refine kat_no ?_
   show wpAny (model prog w) A (oneLt' false (.str p.2 t2) (.str q.2 t4)) C _ s
   exact kat_one _ _ (lt_str h)
 ·rw[if_neg e1] at h
  rw[decide_eq_false e1]
  refine kat_no ?_
  show wpAny (model prog w) A (oneLt' true (.str p.1 t1) (.str q.1 t3)) C _ s
  exact oneLt_str h
theorem zi8{h:Heap}:∀{us:List Value} {ps:List (Str×Str)},us.length=ps.length->(∀(i:Nat) (u:Value) (p:Str×Str),us[i]?=some u->ps[i]?=some p->TupAt h u p)->∃fs,KatTups h us fs/\fs.length=us.length/\∀f∈fs,∃x t,f=Value.str x t
 |[],[],_,_=>⟨[],trivial,rfl,λ_ z=>nomatch z⟩
 |[],_::_,z,_=>by simp at z
 |_::_,[],z,_=>by simp at z
 |u::us,p::ps,hl,hx=>by
  obtain⟨fs,h1,h2,h3⟩:=zi8 (us:=us) (ps:=ps) (by simpa using hl) λi u p e1 e2=>hx (i+1) u p (by simpa using e1) (by simpa using e2)
  obtain⟨b,o,n,t1,t2,rfl,g,c,d⟩:=hx 0 u p rfl rfl
  refine⟨.str p.1 t1::fs,KatTups.cons g c d rfl h1,by simp[h2],λf hf=>?_⟩
  rcases List.mem_cons.mp hf with rfl|hf
  ·exact ⟨_,_,rfl⟩
  ·exact h3 f hf
def pAt(ps:List (Str×Str))(i:Nat):Str×Str:=ps.getD i (⟨#[]⟩,⟨#[]⟩)
theorem zfZ{ps:List (Str×Str)}(hn:ps.Nodup):RW.Strict ps.length (λi j=>ltP (pAt ps i) (pAt ps j)) where
 tot:=λi j hi hj hij e=>zmv (λz=>hij ((List.getElem_inj hn (h₀:=hi) (h₁:=hj)).mp (by unfold pAt at z;simpa[hi,hj] using z))) e
 tr:=λi j k _ _ _ h1 h2=>zkW h1 h2
 asy:=λi j _ _ h=>zmt h
theorem zjl{ps:List (Str×Str)}{p:Array Nat}(hp:RW.PermN ps.length p)(hs:RW.Sor (λi j=>ltP (pAt ps i) (pAt ps j)) p ps.length):(p.toList.map (pAt ps)).Perm ps/\(p.toList.map (pAt ps)).Pairwise (λa b=>ltP a b=true):=by
 constructor
 ·have h1:=hp.map (pAt ps)
  have h2:(List.range ps.length).map (pAt ps)=ps:=by
   apply List.ext_getElem?
   intro i
   rw[List.getElem?_map]
   rcases Nat.lt_or_ge i ps.length with h|h
   ·rw[List.getElem?_range h]
    show some (pAt ps i)=_
    unfold pAt
    simp[h]
   ·rw[List.getElem?_eq_none (by simpa using h),List.getElem?_eq_none h];rfl
  rwa[h2] at h1
 ·have hz:=hp.size
  rw[List.pairwise_iff_getElem]
  intro i j hi hj hij
  have hi':i<p.size:=by simpa using hi
  have hj':j<p.size:=by simpa using hj
  have h:=hs i j hij (by omega)
  rw[RW.gd_get hi',RW.gd_get hj'] at h
  simpa using h
theorem zdm{α β:Type}{R:α->β->Prop}:∀{as:List α} {bs:List β},Paired R as bs->as.length=bs.length/\∀(i:Nat) (a:α) (b:β),as[i]?=some a->bs[i]?=some b->R a b
 |_,_, .nil=>⟨rfl,λi a b e=>by simp at e⟩
 |_,_, .cons h t=>by
  obtain⟨h1,h2⟩:=zdm t
  refine⟨by simp[h1],λi a b e1 e2=>?_⟩
  cases i with
  |zero=>simp at e1 e2;subst e1;subst e2;exact h
  |succ i=>exact h2 i a b (by simpa using e1) (by simpa using e2)
theorem zgq(hc:X.calm=true):CallR X (.builtin "sorted") (λxs H Q=>∃(d:Addr) (kvs:List (List Key×V)) (ps:List (Str×Str)),xs=[.ref d]/\H d=some (.dT kvs)/\kvs.map (·.1)=ps.map zfj/\ps.length<64/\
 ∀(ps':List (Str×Str)) (vs:List V) l,ps'.Perm ps->ps'.Pairwise (λa b=>ltP a b=true)->zl5 H vs ps'->H l=none->Q (.ref l) (upd H l (.lst vs))):=by
 intro pins s σ H xs us Q I r h
 obtain⟨d,kvs,ps,rfl,hd,hk,h64,q⟩:=h
 obtain⟨u,rfl,ru⟩:=zb6 r
 cases ru
 obtain⟨_,nsys,zs,hp,o,es,ep,g,ex,dat,hes,hnd⟩:=(show ObjOk X.prog X.w H s.heap d (.dT kvs)from I.hok d _ hd)
 obtain⟨hl,hget⟩:=zdm hp
 have hlk:kvs.length=ps.length:=by have:=congrArg List.length hk;simpa using this
 have hnp:ps.Nodup:=by
  have e:zs.map (·.1)=kvs.map (·.1):=by
   apply List.ext_getElem?
   intro i
   rw[List.getElem?_map,List.getElem?_map]
   rcases Nat.lt_or_ge i kvs.length with h|h
   ·have h':i<zs.length:=by omega
    have:=(hget i kvs[i] zs[i] (by simp[h]) (by simp[h'])).1
    simp[h,h',this]
   ·rw[List.getElem?_eq_none h,List.getElem?_eq_none (by omega)];rfl
  rw[e,hk] at hnd
  exact(List.pairwise_map.mp hnd).imp λh z=>h (by rw[z])
 have kz:(zs.map λq=>Value.ref q.2.1).length=ps.length:=by rw[List.length_map];omega
 have raw:RawD s.heap d (zs.map λq=>Value.ref q.2.1) ep:=⟨o,es,g,ex,dat,by rw[hes,List.map_map];rfl⟩
 have keyA:∀i (h:i<ps.length),∃b,(zs.map λq=>Value.ref q.2.1)[i]?=some (.ref b)/\H b=some (.tup [.str ps[i].1, .str ps[i].2]):=λi h=>by
  have h1:i<kvs.length:=by omega
  have h2:i<zs.length:=by omega
  have hr:=hget i kvs[i] zs[i] (by simp[h1]) (by simp[h2])
  refine⟨zs[i].2.1,by simp[h2],?_⟩
  have ek:kvs[i].1=zfj ps[i]:=by
   have e1:(kvs.map (·.1))[i]?=some kvs[i].1:=by simp[h1]
   rw[hk] at e1
   have e2:(ps.map zfj)[i]?=some (zfj ps[i]):=by simp[h]
   rw[e1] at e2
   exact Option.some.inj e2
  rw[hr.2.1,ek]
  rfl
 have keyT:∀(i:Nat) (u:Value) (p:Str×Str),(zs.map λq=>Value.ref q.2.1)[i]?=some u->ps[i]?=some p->TupAt s.heap u p:=λi u p e1 e2=>by
  have hi:i<ps.length:=by
   rcases Nat.lt_or_ge i ps.length with z|z
   ·exact z
   ·rw[List.getElem?_eq_none z] at e2;cases e2
  obtain⟨b,f1,f2⟩:=keyA i hi
  rw[f1] at e1
  cases e1
  have ep':ps[i]=p:=by simpa[hi] using e2
  rw[ep'] at f2
  obtain⟨_,its,rv,⟨o',g',c',n',d'⟩,_⟩:=(show ObjOk X.prog X.w H s.heap b (.tup [.str p.1, .str p.2])from I.hok b _ f2)
  cases rv with
  |cons r1 rv=>cases rv with
   |cons r2 rv=>cases rv with
    |nil=>
     obtain⟨t1,rfl⟩:=r1
     obtain⟨t2,rfl⟩:=r2
     exact⟨b,o',n',t1,t2,rfl,g',c',d'⟩
 generalize hks:(zs.map λq=>Value.ref q.2.1)=ks at *
 refine zh1 (A:=X.A) (G:=λp=>RW.PermN ps.length p/\RW.Sor (λi j=>ltP (pAt ps i) (pAt ps j)) p ps.length) (κ:=tuples' true) (zmj (ks:=ks) (ep:=ep) nsys) (I.ok.hd hc) raw (by omega) (λh2 s1 k1=>?_) (λD out h' tk c ho kp hD gD=>?_)
 ·have keyT1:∀(i:Nat) (u:Value) (p:Str×Str),ks[i]?=some u->ps[i]?=some p->TupAt s1.heap u p:=λi u p e1 e2=>(keyT i u p e1 e2).keeps k1
  obtain⟨fs,ft,fl,fa⟩:=zi8 kz keyT1
  refine⟨λC hC=>kat_kind (T:= .type "str") ft (by omega) (λf hf=>?_) rfl hC,?_⟩
  ·obtain ⟨x,t,rfl⟩:=fa f hf
   exact Looks.of_pure rfl
  ·rw[kz]
   refine RW.OkT.wp (N:=ps.length) (lt:=λi j=>ltP (pAt ps i) (pAt ps j)) (I:=λs'=>s'=s1) (λi j C s' hi hj e hC=>?_) (λp s' hp e=>⟨e,hp⟩) rfl (RW.sort_ok (zfZ hnp) (by omega))
   subst e
   have gi:∀i,i<ps.length->TupAt s'.heap (ks.getD i Value.none) (pAt ps i):=λi hi=>by
    have hi':i<ks.length:=by omega
    refine keyT1 i _ _ ?_ ?_
    ·simp[hi']
    ·unfold pAt;simp[hi]
   exact zlQ (gi i hi) (gi j hj) (hC s' rfl)
 ·
  have nD:H D=none:=I.hok.fresh hD
  obtain⟨ps',hperm,hpw,hout⟩:∃ps':List (Str×Str),ps'.Perm ps/\ps'.Pairwise (λa b=>ltP a b=true)/\out.length=ps'.length/\∀(i:Nat) (u:Value) (p:Str×Str),out[i]?=some u->ps'[i]?=some p->∃b,u= .ref b/\H b=some (.tup [.str p.1, .str p.2]):=by
   rcases ho with⟨hlt,rfl⟩|⟨p,hp,⟨hP,hS⟩,rfl⟩
   ·refine ⟨ps, .refl _,?_,kz,λi u p e1 e2=>?_⟩
    ·match ps,(show ps.length<2 by omega)with
     |[],_=>exact .nil
     |[x],_=>exact List.pairwise_singleton _ _
    ·have hi:i<ps.length:=by
      rcases Nat.lt_or_ge i ps.length with z|z
      ·exact z
      ·rw[List.getElem?_eq_none z] at e2;cases e2
     obtain⟨b,f1,f2⟩:=keyA i hi
     rw[f1] at e1;cases e1
     have ep':ps[i]=p:=by simpa[hi] using e2
     rw[ep'] at f2
     exact⟨b,rfl,f2⟩
   ·obtain ⟨o1,o2⟩:=zjl hP hS
    refine⟨p.toList.map (pAt ps),o1,o2,by rw[List.length_map,List.length_map],λi u q e1 e2=>?_⟩
    rw[List.getElem?_map] at e1 e2
    cases hpi:p.toList[i]? with
    |none=>rw[hpi] at e1;cases e1
    |some j=>
     rw[hpi] at e1 e2
     have hj:j<ps.length:=List.mem_range.mp (hP.mem_iff.mp (List.mem_of_getElem? hpi))
     obtain⟨b,f1,f2⟩:=keyA j hj
     have hj':j<ks.length:=by omega
     have eu:ks.getD j Value.none= .ref b:=by
      rw[List.getD_eq_getElem?_getD,f1];rfl
     have e1':some (ks.getD j Value.none)=some u:=e1
     rw[eu] at e1'
     have e2':some (pAt ps j)=some q:=e2
     have eq:pAt ps j=ps[j]:=by unfold pAt;simp[hj]
     rw[eq] at e2'
     cases e1'
     cases e2'
     exact⟨b,rfl,f2⟩
  obtain⟨hol,hog⟩:=hout
  have hall:∀u∈out,∃b,u=Value.ref b:=λu hu=>by
   obtain⟨i,hi,rfl⟩:=List.getElem_of_mem hu
   obtain⟨b,e,_⟩:=hog i out[i] (ps'[i]'(by omega)) (by simp[hi]) (by simp[show i<ps'.length by omega])
   exact⟨b,e⟩
  obtain⟨vs,rvs⟩:∃vs:List V,Vals vs out/\∀(i:Nat) (b:Addr),out[i]?=some (.ref b)->vs[i]?=some (.ref b):=by
   clear hog hol gD ho
   induction out with
   |nil=>exact ⟨[], .nil,λi b e=>by simp at e⟩
   |cons u out ih=>
    obtain⟨vs,h1,h2⟩:=ih λu hu=>hall u (List.mem_cons_of_mem _ hu)
    obtain⟨b,rfl⟩:=hall u List.mem_cons_self
    refine⟨.ref b::vs, .cons rfl h1,λi b' e=>?_⟩
    cases i with
    |zero=>simpa using e
    |succ i=>exact h2 i b' (by simpa using e)
  have lv:vs.length=out.length:=rvs.1.length
  refine⟨.ref D,_,I.laid (a:=D) (o:= .lst vs) (t':=tk) kp hD ⟨by rw[lv,hol,hperm.length_eq];exact Nat.le_of_lt (zn (by omega)),out,c,rvs.1,gD⟩,rfl,q ps' vs D hperm hpw ⟨by omega,λi v p e1 e2=>?_⟩ nD⟩
  have hi:i<out.length:=by
   rcases Nat.lt_or_ge i out.length with z|z
   ·exact z
   ·rw[List.getElem?_eq_none (by omega)] at e1;cases e1
  obtain⟨b,f1,f2⟩:=hog i out[i] p (by simp[hi]) e2
  have:=rvs.2 i b (by rw[←f1];simp[hi])
  rw[this] at e1
  cases e1
  exact⟨b,rfl,f2⟩
end
def zhG(a c:Str)(t u:Tok)(i:Nat):Value:=if i=0 then .str a t else .str c u
section
variable{prog:Program}{w:World}{A:Around}{E:Value->Shared->Prop}{s:Shared}
theorem zfP{a c:Str}{t u:Tok}{i:Nat}{v:Value}(h:(#[Value.str a t,Value.str c u])[i]?=some v):(i=0/\v= .str a t)\/(i=1/\v= .str c u):=by
 match i,h with
 |0,h=>exact .inl ⟨rfl,by simpa using h.symm⟩
 |1,h=>exact .inr ⟨rfl,by simpa using h.symm⟩
 |i+2,h=>simp at h
theorem zgu{a c:Str}{t u:Tok}{R:Value->Shared->Prop}(hh:A.handled=none)(q:∀h' tk,(∀b o,s.heap.get? b=some o->h'.get? b=some o)->R (if ltS a c=true then .str c u else .str a t) {s with heap:=h',toks:=tk}):
 wpAny (model prog w) A (call (.builtin "max") [.str a t, .str c u]) R E s:=by
 have hT:(s.heap.push {cls:= .type "tuple",data:= .seq #[.str a t, .str c u]}).IsTuple s.heap.objs.size #[.str a t, .str c u]:=⟨_,Heap.get?_push_size _ rfl,rfl,0,rfl⟩
 have z:(s.heap.push {cls:= .type "tuple",data:= .seq #[.str a t, .str c u]}).objs.size=s.heap.objs.size+1:=Heap.size_push ..
 refine call_max_two (wpAny_pyIter_tuple hT ?_)
 refine⟨_,[_,s.heap.objs.size],[_],_,_,_,λi j=>ltS (strOf (zhG a c t u j)) (strOf (zhG a c t u i)),rfl,Walks.tuple (A:=A.in1) hh _ s.heap.objs.size (by rw[z];exact Nat.ne_of_lt (Nat.lt_succ_self _)) #[.str a t, .str c u],⟨⟨_,Heap.get?_push_size _ rfl,rfl,rfl⟩,hT.push _⟩,λb hb=>?_,(by decide:0<2),?_,λv h' tk hP hk=>?_⟩
 ·show b<((s.heap.push _).push _).objs.size
  rw[Heap.size_push,z]
  rcases List.mem_cons.mp hb with rfl|hb
  ·rw[z];exact Nat.lt_succ_self _
  ·rcases List.mem_cons.mp hb with rfl|hb
   ·exact Nat.lt_succ_of_lt (Nat.lt_succ_self _)
   ·cases hb
 ·intro i j vi vj s' R' E' hi hj hq
  rcases zfP hi with⟨rfl,rfl⟩|⟨rfl,rfl⟩<;>rcases zfP hj with⟨rfl,rfl⟩|⟨rfl,rfl⟩<;>exact (PySem.P.gt_str hq:wpAny (model prog w) A.in1 (compareOp .Gt _ _) R' E' s')
 ·have keep:∀b o,s.heap.get? b=some o->h'.get? b=some o:=λb o e=>hk b o (λhm=>by
   rcases List.mem_cons.mp hm with e1|hm
   ·have lb:=Heap.lt_size e
    rw[e1,z] at lb
    exact absurd lb (Nat.not_lt.mpr (Nat.le_succ _))
   ·cases hm) (Heap.get?_push_of_some _ (Heap.get?_push_of_some _ e))
  have fin:=q h' tk keep
  have eb:argBest (λi j=>ltS (strOf (zhG a c t u j)) (strOf (zhG a c t u i))) (2 -1)=if ltS a c=true then 1 else 0:=rfl
  have hP':(#[Value.str a t,Value.str c u])[if ltS a c=true then 1 else 0]?=some v:=hP
  by_cases hc:ltS a c=true
  ·rw[if_pos hc] at hP' fin
   have ev:Value.str c u=v:=by simpa using hP'
   rw[←ev];exact fin
  ·rw[if_neg hc] at hP' fin
   have ev:Value.str a t=v:=by simpa using hP'
   rw[←ev];exact fin
theorem zfV{a c:Str}{t u:Tok}{R:Value->Shared->Prop}(hh:A.handled=none)(q:∀h' tk,(∀b o,s.heap.get? b=some o->h'.get? b=some o)->R (if ltS c a=true then .str c u else .str a t) {s with heap:=h',toks:=tk}):
 wpAny (model prog w) A (call (.builtin "min") [.str a t, .str c u]) R E s:=by
 have hT:(s.heap.push {cls:= .type "tuple",data:= .seq #[.str a t, .str c u]}).IsTuple s.heap.objs.size #[.str a t, .str c u]:=⟨_,Heap.get?_push_size _ rfl,rfl,0,rfl⟩
 have z:(s.heap.push {cls:= .type "tuple",data:= .seq #[.str a t, .str c u]}).objs.size=s.heap.objs.size+1:=Heap.size_push ..
 refine call_min_two (wpAny_pyIter_tuple hT ?_)
 refine⟨_,[_,s.heap.objs.size],[_],_,_,_,λi j=>ltS (strOf (zhG a c t u i)) (strOf (zhG a c t u j)),rfl,Walks.tuple (A:=A.in1) hh _ s.heap.objs.size (by rw[z];exact Nat.ne_of_lt (Nat.lt_succ_self _)) #[.str a t, .str c u],⟨⟨_,Heap.get?_push_size _ rfl,rfl,rfl⟩,hT.push _⟩,λb hb=>?_,(by decide:0<2),?_,λv h' tk hP hk=>?_⟩
 ·show b<((s.heap.push _).push _).objs.size
  rw[Heap.size_push,z]
  rcases List.mem_cons.mp hb with rfl|hb
  ·rw[z];exact Nat.lt_succ_self _
  ·rcases List.mem_cons.mp hb with rfl|hb
   ·exact Nat.lt_succ_of_lt (Nat.lt_succ_self _)
   ·cases hb
 ·intro i j vi vj s' R' E' hi hj hq
  rcases zfP hi with⟨rfl,rfl⟩|⟨rfl,rfl⟩<;>rcases zfP hj with⟨rfl,rfl⟩|⟨rfl,rfl⟩<;>exact (lt_str hq:wpAny (model prog w) A.in1 (compareOp .Lt _ _) R' E' s')
 ·have keep:∀b o,s.heap.get? b=some o->h'.get? b=some o:=λb o e=>hk b o (λhm=>by
   rcases List.mem_cons.mp hm with e1|hm
   ·have lb:=Heap.lt_size e
    rw[e1,z] at lb
    exact absurd lb (Nat.not_lt.mpr (Nat.le_succ _))
   ·cases hm) (Heap.get?_push_of_some _ (Heap.get?_push_of_some _ e))
  have fin:=q h' tk keep
  have eb:argBest (λi j=>ltS (strOf (zhG a c t u i)) (strOf (zhG a c t u j))) (2 -1)=if ltS c a=true then 1 else 0:=rfl
  have hP':(#[Value.str a t,Value.str c u])[if ltS c a=true then 1 else 0]?=some v:=hP
  by_cases hc:ltS c a=true
  ·rw[if_pos hc] at hP' fin
   have ev:Value.str c u=v:=by simpa using hP'
   rw[←ev];exact fin
  ·rw[if_neg hc] at hP' fin
   have ev:Value.str a t=v:=by simpa using hP'
   rw[←ev];exact fin
end
section
variable{X:Cx}
theorem zeB(hc:X.calm=true):CallR X (.builtin "max") (λxs H Q=>∃a c,xs=[.str a, .str c]/\Q (.str (if ltS a c=true then c else a)) H):=by
 intro pins s σ H xs us Q I r h
 obtain⟨i,j,rfl,q⟩:=h
 obtain⟨u,w',rfl,⟨t,rfl⟩,⟨t',rfl⟩⟩:=zfs r
 refine zgu (I.ok.hd hc) λh' tk k=>⟨_,H,I.kept k,?_,q⟩
 by_cases hj:ltS i j=true
 ·rw[if_pos hj,if_pos hj];exact⟨_,rfl⟩
 ·rw[if_neg hj,if_neg hj];exact⟨_,rfl⟩
theorem zeY(hc:X.calm=true):CallR X (.builtin "min") (λxs H Q=>∃a c,xs=[.str a, .str c]/\Q (.str (if ltS c a=true then c else a)) H):=by
 intro pins s σ H xs us Q I r h
 obtain⟨i,j,rfl,q⟩:=h
 obtain⟨u,w',rfl,⟨t,rfl⟩,⟨t',rfl⟩⟩:=zfs r
 refine zfV (I.ok.hd hc) λh' tk k=>⟨_,H,I.kept k,?_,q⟩
 by_cases hj:ltS j i=true
 ·rw[if_pos hj,if_pos hj];exact⟨_,rfl⟩
 ·rw[if_neg hj,if_neg hj];exact⟨_,rfl⟩
end
section
open PySem.SeqAt
open PySem.AutoSeq1 (wpAny_loadPart')
open PySem.MeetsSeq PySem.MeetsSeq2 PySem.MeetsSeq3
end
section
variable{X:Cx}{K:PySem.W.Frag}
def znN(K:PySem.W.Frag):R2:=λx y H Q=>∃a b xs ys,x= .ref a/\y= .ref b/\SqT K H a xs/\SqT K H b ys/\xs.length+ys.length<=sizeLine/\
 (xs=[]->Q (.ref b) H)/\(xs≠ []->ys=[]->Q (.ref a) H)/\(xs≠ []->ys≠ []->∀p,H p=none->Q (.ref p) (upd H p (.tup (xs ++ys))))
theorem zbt:OpR X (binaryOp .Add) (znN X.K):=by
 intro pins s σ H x y v u Q I rx ry h
 obtain⟨a,b,xs,ys,rfl,rfl,ha,hb,hz,q0,q1,q2⟩:=h
 by_cases hx:xs=[]
 ·cases rx
  cases ry
  obtain⟨its,r1,p1,_⟩:=I.tuple ha
  obtain⟨its2,r2,p2,_⟩:=I.tuple hb
  have e1:its=[]:=r1.nil_iff.mpr hx
  obtain⟨⟨cls,dd,data,sl⟩,ho,hc,n,hd⟩:=id p1
  obtain⟨⟨cls2,dd2,data2,sl2⟩,ho2,hc2,n2,hd2⟩:=id p2
  simp only at hc hd hc2 hd2
  subst hc hd hc2 hd2
  exact concat_meets ⟨_,ho,rfl⟩ ⟨_,ho2,rfl⟩ noFill_tuple_add seq_tuple_add PySem.F.slot_tuple_add PySem.F.entry_tuple_add (PySem.F.args_tuple_add_2 _ _) (tuple_addW0 a b its.toArray its2.toArray n n2 dd dd2 sl sl2 (by simp[e1])) ⟨ho,ho2,⟨.ref b,H,I,rfl,q0 hx⟩⟩
 ·exact zlZ pins s σ H _ _ v u Q I rx ry ⟨a,b,xs,ys,rfl,rfl,ha,hb,hx,hz,q1 hx,q2 hx⟩
end
section
open PySem.AutoSeq1 (wpAny_loadPart')
end
section
variable{X:Cx}{K:PySem.W.Frag}
theorem hu1{k:Nat}{A:Around}(r:Room k A):A.units+1<cLine:=by have:=r.units;omega
end
section
variable{X:Cx}{a b o i value:Expr}{x y:Str}{px py pt pt2 pos pos':Pos}{kt k2:Nat}{ta:TA}{td ty tv:TE}
theorem zhF(m n:Nat)(hN:X.N.Nodup)(ha:QA X [a,b] ta)(hc:X.calm=true:=by rfl)(hi:X.N[m]?=some x:=by rfl)(hj:X.N[n]?=some y:=by rfl)(hij:m≠n:=by decide)
 (hx:X.env.scope.names.lookup x=some .local:=by rfl) (hy:X.env.scope.names.lookup y=some .local:=by rfl)
 (hw:swappedStores [.Tuple [.Name x px, .Name y py] kt pt] (.Tuple [a,b] k2 pt2) X.env=pure (some [x,y]):=by rfl)
 (hs:swapsWithSole [.Tuple [.Name x px, .Name y py] kt pt] (.Tuple [a,b] k2 pt2) pos.line X.env=pure false:=by rfl):
 QS X (.Assign [.Tuple [.Name x px, .Name y py] kt pt] (.Tuple [a,b] k2 pt2) pos) (zpw m n ta):=⟨zos hc hN hi hj hij hx hy ha.o hw hs⟩
theorem zhO(hu:X.A.units+1<cLine)(ho:QE X o td)(hi:QE X i ty)(hv:QE X value tv)(hs:swapsWith value (some (.Subscript o i pos')) pos.line X.env=pure false:=by rfl):
 QS X (.Assign [.Subscript o i pos'] value pos) (znM td ty tv):=⟨zm4 hu ho.o hi.o hv.o hs⟩
theorem zmH:QE X (.Dict [] [] pos) zkK:=⟨zkC⟩
end
end L2
namespace RW
open PySem PySem.Spec PyProof.Rows L2
def ltD:D->D->Bool
 | .str x, .str y=>ltS x y
 | .tup [.str a, .str b], .tup [.str c, .str d]=>ltP (a,b) (c,d)
 |_,_=>false
def zlY(ds:List D):Bool:=(List.range (ds.length -1)).all λk=>ltD (ds.getD k .non) (ds.getD (k+1) .non)
def areHousesB:D->Bool| .tup ds=>decide (1<=ds.length)&&decide (ds.length<=10)&&ds.all zcW&&zlY ds|_=>false
def za0:D->Bool| .tup ds=>decide (ds.length<=90)&&ds.all zQ|_=>false
def zbq:D->Bool| .tup ds=>decide (ds.length<=90)&&ds.all zbh|_=>false
theorem zjP(z:Str)(n:Nat):(zeH z n).cps.toList=(List.replicate n z.cps.toList).flatten:=by
 unfold zeH
 have key:∀(k:Nat) (acc:Array Nat),((List.replicate k z.cps).foldl (·++·) acc).toList=acc.toList ++(List.replicate k z.cps.toList).flatten:=by
  intro k
  induction k with
  |zero=>intro acc;simp
  |succ k ih=>intro acc;rw[List.replicate_succ,List.foldl_cons,ih,List.replicate_succ,List.flatten_cons,Array.toList_append,List.append_assoc]
 have:=key n #[]
 simpa using this
theorem zb9(c n:Nat):(zeH (one c) n).cps.toList=List.replicate n c:=by
 rw[zjP]
 show(List.replicate n [c]).flatten=_
 induction n with
 |zero=>rfl
 |succ n ih=>rw[List.replicate_succ,List.flatten_cons,ih,List.replicate_succ];rfl
def ziW(x:Str):Bool:=x.cps.toList.all λc=>some c==x.cps.toList.head?
theorem zhB(c n:Nat):ziW (zeH (one c) n)=true:=by
 unfold ziW
 rw[zb9]
 cases n with
 |zero=>rfl
 |succ n=>
  rw[List.all_eq_true]
  intro d hd
  rw[List.eq_of_mem_replicate hd]
  simp[List.replicate_succ]
def keptL:List Str:=["goal","to","by","houses","tie","like","hand","keep","put","mark","long","from","strike"]
theorem zmf:∀x∈keptL,zh x=true:=by decide +kernel
theorem zjM:∀x∈keptL,ziW x=false:=by decide +kernel
theorem zl1:∀c∈lettersS.cps.toList,∀k∈List.range 8,zh (zeH (one c) (k+1))=true:=by decide +kernel
theorem zgK:lettersS.length=26:=by decide +kernel
theorem zeL:∀k∈List.range 26,lettersS.cps.toList[k]?=some (97+k):=by decide +kernel
theorem zi9(c:Nat):(one c).length=1:=rfl
def zkq:List Nat:=[1,3,5,7,9,11]
theorem zkd:∀f∈List.range 26,∀st∈zkq,((List.range 13).map λk=>(f+st*k)%26).Nodup:=by decide +kernel
def nmS(f st k:Nat):Str:=zeH (one (97+(f+st*k)%26)) (1+(k*k+f)%8)
def kwS(sp k:Nat):Str:=keptL.getD ((sp+3*k)%13) ""
def zbc(f st sp j k:Nat):Str:=if k<j then kwS sp k else nmS f st k
theorem zo3:∀sp∈List.range 13,((List.range 4).map λk=>kwS sp k).Nodup:=by decide +kernel
theorem zis(sp k:Nat):kwS sp k∈keptL:=by
 unfold kwS
 have h:(sp+3*k)%13<keptL.length:=Nat.mod_lt _ (by decide)
 simp[List.getD,h]
theorem zlL{α:Type}{l:List α}(h:l.Nodup){i j:Nat}(hi:i<l.length)(hj:j<l.length)(hij:i≠j):l[i]≠l[j]:=λz=>hij ((List.getElem_inj h).mp z)
theorem zg5{f st sp j m:Nat}(hf:f<26)(hst:st∈zkq)(hsp:sp<13)(hj:j<=4)(hm:m<=13):((List.range m).map (zbc f st sp j)).Nodup:=by
 have key:∀a b,a<b->b<13->zbc f st sp j a≠zbc f st sp j b:=by
  intro a b hab hb
  unfold zbc
  by_cases h1:a<j
  ·rw[if_pos h1]
   by_cases h2:b<j
   ·rw[if_pos h2]
    have:=zlL (zo3 sp (List.mem_range.mpr hsp)) (i:=a) (j:=b) (by simp;omega) (by simp;omega) (by omega)
    simpa using this
   ·rw[if_neg h2]
    intro z
    have e1:=zjM _ (zis sp a)
    rw[z] at e1
    unfold nmS at e1
    rw[zhB] at e1
    cases e1
  ·rw[if_neg h1,if_neg (by omega)]
   intro z
   have hh:(nmS f st a).cps.toList.head?=(nmS f st b).cps.toList.head?:=by rw[z]
   unfold nmS at hh
   rw[zb9,zb9,Nat.add_comm 1,Nat.add_comm 1,List.replicate_succ,List.replicate_succ] at hh
   simp only[List.head?_cons,Option.some.injEq] at hh
   have:=zlL (zkd f (List.mem_range.mpr hf) st hst) (i:=a) (j:=b) (by simp;omega) (by simp;omega) (by omega)
   simp at this
   omega
 rw[List.nodup_iff_pairwise_ne,List.pairwise_map]
 refine List.Pairwise.imp_of_mem (λ{a b} ha hb hab=>?_) (List.pairwise_lt_range (n:=m))
 exact key a b hab (by have:=List.mem_range.mp hb;omega)
theorem zpJ(f st k:Nat):zh (nmS f st k)=true:=by
 unfold nmS
 rw[Nat.add_comm 1]
 have hr:(f+st*k)%26<26:=Nat.mod_lt _ (by decide)
 exact zl1 _ (List.mem_of_getElem? (zeL _ (List.mem_range.mpr hr))) _ (List.mem_range.mpr (Nat.mod_lt _ (by decide)))
theorem zmU(f st sp j k:Nat):zh (zbc f st sp j k)=true:=by
 unfold zbc
 split
 ·exact zmf _ (zis sp k)
 ·exact zpJ f st k
theorem zkf{f st sp j m:Nat}(hj:j<m):((List.range m).map (zbc f st sp j)).set j (kwS sp j)=(List.range m).map (zbc f st sp (j+1)):=by
 apply List.ext_getElem?
 intro i
 rw[List.getElem?_set]
 by_cases e:j=i
 ·subst e
  rw[if_pos rfl,if_pos (by simp;exact hj)]
  simp[hj,zbc]
 ·rw[if_neg e]
  rcases Nat.lt_or_ge i m with h|h
  ·rw[List.getElem?_map,List.getElem?_map,List.getElem?_range h]
   show some _=some _
   congr 1
   unfold zbc
   by_cases h1:i<j
   ·rw[if_pos h1,if_pos (by omega)]
   ·rw[if_neg h1,if_neg (by omega)]
  ·rw[List.getElem?_eq_none (by simpa using h),List.getElem?_eq_none (by simpa using h)]
theorem zmA{sp k:Nat}:keptL[(sp+3*k)%13]?=some (kwS sp k):=by
 unfold kwS
 have h:(sp+3*k)%13<keptL.length:=Nat.mod_lt _ (by decide)
 simp[List.getD,h]
theorem zby{xs:List V}{m:Nat}:zaY xs (some (m:Int)) none=xs.drop m:=by
 unfold zaY
 have e1:HT.sIx xs.length xs.length none=xs.length:=rfl
 have e2:HT.sIx xs.length 0 (some (m:Int))=min m xs.length:=by
  unfold HT.sIx
  have h:¬(m:Int)<0:=by omega
  simp only[if_neg h,Int.toNat_natCast]
 rw[e1,e2]
 rcases Nat.lt_or_ge m xs.length with h|h
 ·rw[Nat.min_eq_left (by omega),List.take_of_length_le (by rw[List.length_drop];omega)]
 ·rw[Nat.min_eq_right h,List.drop_of_length_le (Nat.le_refl _),List.drop_of_length_le h];simp
theorem zd7{J:It}{N:Nat}{Pw:Nat->V->Prop}{ok:Hp->Prop}{a:Addr}{m c:Int}{Pd:Nat->D->Prop}{H:Hp}{te:TE}{src:List (Option Nat)}{σ σr:L2.St}{Q:VK}(wk:Wk J N Pw ok)(hok:∀H',Keep a H H'->ok H')(hs:zdk src σ=none::σr)(hH:Hand H a m)(hN:N<=900)(hc:0<=c)
 (he:∀(i:Nat) (x:V) (H1:Hp) (Q1:VK),i<N->Hand H1 a (m+c*i)->Keep a H H1->(∀v d H2,Rep H2 v d->Pd i d->Hand H2 a (m+c*i+c)->Keep a H1 H2->Q1 v H2)->te (some x::σr) H1 Q1)
 (q:∀l vs ds H',H l=none->H' l=some (.lst vs)->RepL H' vs ds->ds.length=N->(∀i d,ds[i]?=some d->Pd i d)->Hand H' a (m+c*N)->Keep a H H'->Q (.ref l) H'):zcu (zbi 0) zjO te src σ Q J H:=by
 refine zba wk (λl i ys σ' H'=>(∃o,σ'=o::σr)/\(∃ds:List D,RepL H' ys ds/\ds.length=i/\∀j d,ds[j]?=some d->Pd j d)/\Hand H' a (m+c*i)/\Keep a H H') ?_ (λ_ _ _ _ _ _ p=>hok _ p.2.2.2) ?_ ?_
 ·exact λl hl=>⟨⟨_,hs⟩,⟨[],RepL.nil,rfl,λj d z=>by simp at z⟩,(hH.new hl).mono (by simp),Keep.new hl⟩
 ·rintro l i y ys σ' H1 hl hi hy ⟨⟨o,rfl⟩,⟨ds,hr,hl2,hp⟩,hH1,k1⟩ hl'
  have nl:=hH.ne hl
  refine he i y H1 _ hi hH1 k1 λv d H2 rv pd hH2 k2=>?_
  have hl2':H2 l=some (.lst ys):=k2 _ _ nl hl'
  have m2:Mono H1 H2:=Mono.keep k2 hH1 hH2
  have m3:Mono H2 (upd H2 l (.lst (ys ++ [v]))):=Mono.lset hl2'
  refine⟨hl2',?_,⟨_,rfl⟩,⟨ds ++ [d],((hr.mono m2).append (.cons rv .nil)).mono m3,?_,?_⟩,(hH2.updNe nl).mono ?_,(k1.trans k2).updNew hl⟩
  ·have:=hr.1
   exact zn (by omega)
  ·rw[List.length_append,hl2];rfl
  ·intro j e he
   by_cases hj:j<ds.length
   ·rw[List.getElem?_append_left hj] at he
    exact hp j e he
   ·rw[List.getElem?_append_right (by omega)] at he
    have hj2:j=ds.length:=by
     rcases Nat.lt_or_ge ds.length j with z|z
     ·rw[List.getElem?_eq_none (by simp;omega)] at he;cases he
     ·omega
    subst hj2
    simp at he
    subst he
    rw[hl2];exact pd
  ·rw[show((i+1:Nat):Int)=(i:Int)+1 by omega,Int.mul_add,Int.mul_one]
   omega
 ·rintro l ys σ' H1 hl ⟨⟨o,rfl⟩,⟨ds,hr,hl2,hp⟩,hH1,k1⟩ hl'
  exact q l ys ds H1 hl hl' hr hl2 hp hH1 k1
def pairD(p:Str×Str):D:= .tup [.str p.1, .str p.2]
structure TownOk(g:Str)(hs:List Str)(ps:List (Str×Str))(lks hds:List D):Prop where
 rise:hs.Pairwise (λa b=>ltS a b=true)
 one:1<=hs.length
 ten:hs.length<=10
 names:∀x∈hs,zh x=true
 goal:g∈hs
 riseP:ps.Pairwise (λa b=>ltP a b=true)
 ties:∀p∈ps,p.1∈hs/\p.2∈hs/\ltS p.1 p.2=true
 ll:lks.length=hs.length
 lh:hds.length=hs.length
 likes:∀d∈lks,za0 d=true
 hands:∀d∈hds,zbq d=true
def zaB(g:Str)(hs:List Str)(ps:List (Str×Str))(lks hds:List D):D:= .tup [.str g, .tup (hs.map D.str), .tup (ps.map pairD), .tup lks, .tup hds]
section
variable{te tf:TE}{ta:TA}{tb:TS}{De:Ends}{σ:L2.St}{H:Hp}{d:D}{ds es:List D}{K:PySem.W.Frag}{k:Nat}
end
section
variable{te tf:TE}{σ:L2.St}{H:Hp}{d:D}{ds es:List D}{K:PySem.W.Frag}
theorem zmB{J:It}{vs:List V}{f:D->D}{g:D->Bool}{ok:Hp->Prop}{tc:TT}{src:List (Option Nat)}{σr:L2.St}{Q:VK}(wk:Wk J vs.length (λi x=>vs[i]?=some x) ok)(hok:∀H',Same H H'->ok H')(r:RepL H vs ds)(hl:ds.length<=900)(e:zdk src σ=none::σr)
 (hc:∀(x:V) (d:D) (H1:Hp) (Q1:Bool->Hp->Prop),Same H H1->Rep H1 x d->d∈ds->(∀H2,Same H1 H2->Q1 (g d) H2)->tc (some x::σr) H1 Q1)
 (he:∀(x:V) (d:D) (H1:Hp),Same H H1->Rep H1 x d->d∈ds->Dsp te (some x::σr) H1 (f d))
 (q:∀l us H',Same H H'->H l=none->H' l=some (.lst us)->RepL H' us ((ds.filter g).map f)->Q (.ref l) H'):zcu (zbi 0) tc te src σ Q J H:=by
 refine zba wk (λl i ys σ' H'=>(∃o,σ'=o::σr)/\RepL H' ys (((ds.take i).filter g).map f)/\Same H H') ?_ ?_ ?_ ?_
 ·exact λl h'=>⟨⟨none,e⟩,RepL.nil,Same.new h'⟩
 ·exact λl i ys σ' H' _ p=>hok H' p.2.2
 ·rintro l i y ys σ' H1 h' hi hy ⟨⟨o,rfl⟩,ry,s1⟩ hl'
  obtain⟨d,hd,rd⟩:=r.get hy
  refine hc y d H1 _ s1 (rd.same s1) (List.mem_of_getElem? hd) λH2 s2=>?_
  have tk:((ds.take (i+1)).filter g).map f=((ds.take i).filter g).map f ++([d].filter g).map f:=by
   rw[List.take_add_one,hd,List.filter_append,List.map_append];rfl
  rw[tk]
  cases hg:g d with
  |false=>
   have e0:([d].filter g).map f=[]:=by simp[hg]
   rw[e0,List.append_nil]
   exact⟨s2 _ _ hl',⟨_,rfl⟩,ry.mono (.of s2),s1.trans s2⟩
  |true=>
   have e0:([d].filter g).map f=[f d]:=by simp[hg]
   rw[e0]
   refine he y d H2 (s1.trans s2) ((rd.same s1).same s2) (List.mem_of_getElem? hd) H2 _ (Same.refl _) λv H3 s3 rv=>?_
   refine⟨s3 _ _ (s2 _ _ hl'),?_,⟨_,rfl⟩,?_,?_⟩
   ·have h1:=ry.1
    have h2:=List.length_filter_le g (ds.take i)
    rw[List.length_map] at h1
    rw[List.length_take] at h2
    exact zn (by omega)
   ·exact ((ry.mono (.of (s2.trans s3))).append (.cons rv .nil)).mono (.lset (s3 _ _ (s2 _ _ hl')))
   ·exact λc o e=>by
     rw[ze (zi e h')]
     exact s3 _ _ (s2 _ _ (s1 _ _ e))
 ·rintro l ys σ' H1 h' ⟨⟨o,rfl⟩,ry,s1⟩ hl'
  rw[r.1,List.take_length] at ry
  exact q l ys H1 s1 h' hl' ry
end
theorem zbZ{H:Hp}{hs:List Str}(h:∀x∈hs,x.length<=1000):RepL H (hs.map V.str) (hs.map D.str):=by
 refine⟨by rw[List.length_map,List.length_map],λi v d hv hd=>?_⟩
 rw[List.getElem?_map] at hv hd
 cases e:hs[i]? with
 |none=>rw[e] at hv;cases hv
 |some x=>
  rw[e] at hv hd
  cases hv
  cases hd
  exact .str x (h x (List.mem_of_getElem? e))
theorem zg7{α β:Type}{F:α->List β}{m:Nat}(hF:∀a,(F a).length<=m):∀l:List α,(l.flatMap F).length<=l.length*m
 |[]=>Nat.zero_le _
 |a::l=>by
  rw[List.flatMap_cons,List.length_append,List.length_cons,Nat.succ_mul]
  have:=zg7 hF l
  have:=hF a
  omega
inductive Tr(H:Hp):V->PyData->Prop
 |non:Tr H .non .none
 |bl (b:Bool):Tr H (.bl b) (.bool b)
 |int (i:Int):Tr H (.int i) (.int i)
 |str (x:Str) (h:PyData.strOk x=true):Tr H (.str x) (.str x)
 |tup {p:Addr} {vs:List V} {ds:List PyData} (e:H p=some (.tup vs)) (hl:vs.length=ds.length) (h:∀(i:Nat) (v:V) (d:PyData),vs[i]?=some v->ds[i]?=some d->Tr H v d):Tr H (.ref p) (.tuple ds)
 |lst {p:Addr} {vs:List V} {ds:List PyData} (e:H p=some (.lst vs)) (hl:vs.length=ds.length) (h:∀(i:Nat) (v:V) (d:PyData),vs[i]?=some v->ds[i]?=some d->Tr H v d):Tr H (.ref p) (.list ds)
theorem zcR{h:Heap}:∀{vs:List V} {us:List Value} {ds:List PyData},Vals vs us->vs.length=ds.length->(∀(i:Nat) (v:V) (d:PyData),vs[i]?=some v->ds[i]?=some d->∀u,RelV v u->∃as,Reads h u d as)->∃bs,ReadsAll h us ds bs
 |_,_,[], .nil,_,_=>⟨_, .nil⟩
 |v::vs,u::us,d::ds, .cons r t,hl,hh=>by
  obtain⟨as,ha⟩:=hh 0 v d rfl rfl u r
  obtain⟨bs,hb⟩:=zcR t (by simpa using hl) λi v' d' h1 h2=>hh (i+1) v' d' h1 h2
  exact⟨_, .cons ha hb⟩
 |[],_,d::ds, .nil,hl,_=>by simp at hl
 |v::vs,u::us,[], .cons r t,hl,_=>by simp at hl
theorem Tr.reads{X:Cx}{pins:List (Addr×Obj)}{σ:L2.St}{H:Hp}{s:Shared}(I:Inv X pins σ H s){x:V}{d:PyData}(t:Tr H x d):∀v,RelV x v->∃as,Reads s.heap v d as:=by
 induction t with
 |non=>intro v r;cases r;exact⟨_, .none⟩
 |bl b=>intro v r;cases r;exact⟨_, .bool b⟩
 |int i=>intro v r;obtain⟨t,rfl⟩:=r;exact⟨_, .int i t⟩
 |str x h=>intro v r;obtain⟨t,rfl⟩:=r;exact⟨_, .str x t⟩
 |tup e hl h ih=>
  intro v r
  cases r
  obtain⟨its,rv,⟨o,ho,hc,n,hd⟩,_⟩:=I.tuple (SqT.of e)
  obtain⟨bs,hb⟩:=zcR (h:=s.heap) rv hl ih
  exact⟨_, .tuple ho hc hd (by simpa using hb)⟩
 |lst e hl h ih=>
  intro v r
  cases r
  obtain⟨its,n,rv,ho,_⟩:=I.lst e
  obtain⟨bs,hb⟩:=zcR (h:=s.heap) rv hl ih
  exact⟨_, .list ho rfl rfl (by simpa using hb)⟩
theorem zdY:∀{vs:List V} {ds:List PyData},vs.length=ds.length->(∀(i:Nat) (v:V) (d:PyData),vs[i]?=some v->ds[i]?=some d->d.canLay0=true)->PyData.canLayAll0 ds=true
 |_,[],_,_=>rfl
 |v::vs,d::ds,hl,hh=>by
  rw[PyData.canLayAll0,hh 0 v d rfl rfl,zdY (vs:=vs) (ds:=ds) (by simpa using hl) λi v' d' h1 h2=>hh (i+1) v' d' h1 h2];rfl
 |[],d::ds,hl,_=>by simp at hl
theorem Tr.can{H:Hp}{x:V}{d:PyData}(t:Tr H x d):d.canLay0=true:=by
 induction t with
 |non=>rfl
 |bl b=>rfl
 |int i=>rfl
 |str x h=>simp only[PyData.canLay0];exact h
 |tup e hl h ih=>rw[PyData.canLay0];exact zdY hl ih
 |lst e hl h ih=>rw[PyData.canLay0];exact zdY hl ih
section
variable{X:Cx}
def zqb:R2:=λx y H Q=>∃d e,Tr H x d/\Tr H y e/\min d.depth e.depth<=60/\Q (.bl (d.eqv e)) H
def zp1:R2:=λx y H Q=>∃d e,Tr H x d/\Tr H y e/\min d.depth e.depth<=60/\Q (.bl (!d.eqv e)) H
theorem zhV(hu:X.A.units+64<cLine):OpR X (compareOp .Eq) zqb:=by
 intro pins s σ H x y v u Q I rx ry h
 obtain⟨d,e,t1,t2,hd,q⟩:=h
 obtain⟨as,r1⟩:=t1.reads I v rx
 obtain⟨bs,r2⟩:=t2.reads I u ry
 exact SeqAt.compareEq_reads r1 r2 t1.can t2.can (by omega) ⟨.bl _,H,I,rfl,q⟩
theorem ze3(hu:X.A.units+64<cLine):OpR X (compareOp .NotEq) zp1:=by
 intro pins s σ H x y v u Q I rx ry h
 obtain⟨d,e,t1,t2,hd,q⟩:=h
 obtain⟨as,r1⟩:=t1.reads I v rx
 obtain⟨bs,r2⟩:=t2.reads I u ry
 exact SeqAt.compareNe_reads r1 r2 t1.can t2.can (by omega) ⟨.bl _,H,I,rfl,q⟩
def zpY:R2:=λx y H Q=>∃d es,Tr H x d/\(Tr H y (.list es)\/Tr H y (.tuple es))/\d.depth<=60/\Q (.bl (es.any λy=>y.eqv d)) H
theorem zoK(hu:X.A.units+64<cLine):OpR X (compareOp .In) zpY:=by
 intro pins s σ H x y v u Q I rx ry h
 obtain⟨d,es,t1,t2,hd,q⟩:=h
 obtain⟨as,r1⟩:=t1.reads I v rx
 rcases t2 with t2|t2
 ·obtain ⟨bs,r2⟩:=t2.reads I u ry
  have c:=t2.can
  rw[PyData.canLay0] at c
  exact SeqAt.in_list_reads r2 r1 c t1.can (by omega) ⟨.bl _,H,I,rfl,q⟩
 ·obtain ⟨bs,r2⟩:=t2.reads I u ry
  have c:=t2.can
  rw[PyData.canLay0] at c
  exact SeqAt.in_tuple_reads r2 r1 c t1.can (by omega) ⟨.bl _,H,I,rfl,q⟩
def zp8:R2:=λx y H Q=>∃d es,Tr H x d/\(Tr H y (.list es)\/Tr H y (.tuple es))/\d.depth<=60/\Q (.bl (!es.any λy=>y.eqv d)) H
theorem zoy(hu:X.A.units+64<cLine):OpR X (compareOp .NotIn) zp8:=by
 intro pins s σ H x y v u Q I rx ry h
 obtain⟨d,es,t1,t2,hd,q⟩:=h
 obtain⟨as,r1⟩:=t1.reads I v rx
 rcases t2 with t2|t2
 ·obtain ⟨bs,r2⟩:=t2.reads I u ry
  have c:=t2.can
  rw[PyData.canLay0] at c
  exact SeqAt.notIn_list_reads r2 r1 c t1.can (by omega) ⟨.bl _,H,I,rfl,q⟩
 ·obtain ⟨bs,r2⟩:=t2.reads I u ry
  have c:=t2.can
  rw[PyData.canLay0] at c
  exact SeqAt.notIn_tuple_reads r2 r1 c t1.can (by omega) ⟨.bl _,H,I,rfl,q⟩
theorem zei{k:Nat}{A:Around}(r:Room k A):A.units+64<cLine:=by have:=r.un;omega
end
end RW
namespace HT
open PySem PySem.Spec PyProof.Rows
section
variable{prog:Program}{w:World}{A:Around}{E:Value->Shared->Prop}{s:Shared}
theorem zls{α β:Type}{f:α->Option β}{g:α->β}:∀{l:List α},(∀a∈l,f a=some (g a))->l.filterMap f=l.map g
 |[],_=>rfl
 |a::l,h=>by rw[List.filterMap_cons,h a List.mem_cons_self,zls λb hb=>h b (List.mem_cons_of_mem _ hb)];rfl
theorem zlw(xs:Array Value):((List.range xs.size).filterMap λ(m:Nat)=>xs[((xs.size:Int) -1+(m:Int)* -1).toNat]?).toArray=xs.toList.reverse.toArray:=by
 congr 1
 refine List.ext_getElem? λi=>?_
 have e:((List.range xs.size).filterMap λ(m:Nat)=>xs[((xs.size:Int) -1+(m:Int)* -1).toNat]?)=(List.range xs.size).map λm=>xs[xs.size -1 -m]?.getD .none:=by
  refine zls λm hm=>?_
  have hm':=List.mem_range.mp hm
  rw[show((xs.size:Int) -1+(m:Int)* -1).toNat=xs.size -1 -m by omega]
  have:xs.size -1 -m<xs.size:=by omega
  simp[this]
 rw[e,List.getElem?_map]
 rcases Nat.lt_or_ge i xs.size with h|h
 ·rw[List.getElem?_range h,List.getElem?_reverse (by simpa using h)]
  have:xs.size -1 -i<xs.size:=by omega
  simp[this]
 ·rw[List.getElem?_eq_none (by simpa using h),List.getElem?_eq_none (by simpa using h)];rfl
theorem getItem_tuple_rev{t sl:Addr}{items:Array Value}{tk:Tok}{Q:Value->Shared->Prop}(ht:IsTup s.heap t items)(hs:s.heap.IsSliceOf sl .none .none (.int (-1) tk))
 (h:Q (.ref s.heap.objs.size) {s with heap:=s.heap.push {cls:= .type "tuple",data:= .seq items.toList.reverse.toArray}})
 (hsz:items.size<=sizeLine):wpAny (model prog w) A (getItem (.ref t) (.ref sl)) Q E s:=by
 have htake:sizeOk (.seq items.toList.reverse.toArray):=by
  show items.toList.reverse.toArray.size<=sizeLine
  rw[List.size_toArray,List.length_reverse,Array.length_toList]
  exact hsz
 obtain⟨os,hos,hcs,hds⟩:=id hs
 have hTs:s.TypeIs (.ref sl) "slice":=⟨os,hos,hcs⟩
 unfold getItem
 try with_reducible refine wpAny_holding ?_
 first|refine wpAny_bind (wpAny_pure ?_)|skip
 refine wpAny_bind (wpAny_sequenceKey ht.typeIs (by decide) ?_)
 refine wpAny_bind (wpAny_callSpecial?_slot (name:=Str.ofString "__getitem__") ht.typeIs PyProof.Rows.slot_tuple_getitem
  (wpAny_call_entry PyProof.Rows.slot_tuple_getitem ht.typeIs entry_tuple_getitem ?_ (args_tuple_getitem _ _)))
 show wpAny _ _ (Builtin.Tuple.tupleItemsOf (.ref t)>>=_) _ _ s
 refine wpAny_bind (tupleItemsOf_ ht ?_)
 refine wpAny_bind (wpAny_typeOf hTs ?_)
 rw[if_pos (by decide)]
 have happ:∀{A:Around} {R:Int×Int×Nat->Shared->Prop},R ((items.size:Int) -1,-1,items.size) s->wpAny (model prog w) A (Builtin.Slice.sliceApplied (.ref sl) (pure (items.size:Int))) R E s:=by
  intro A R hR
  unfold Builtin.Slice.sliceApplied Builtin.Slice.sliceFields
  refine wpAny_bind (wpAny_bind (wpAny_field hos hds (x:= .none) rfl (wpAny_bind (wpAny_field hos hds (x:= .none) rfl (wpAny_bind (wpAny_field hos hds (x:= .int (-1) tk) rfl (wpAny_pure ?_)))))))
  refine wpAny_bind (zbR (.int (-1) tk) ?_)
  show wpAny _ _ (if((-1:Int)==0)=true then _ else _) _ _ s
  rw[if_neg (by decide)]
  refine wpAny_bind (zbR .none (wpAny_bind (zbR .none (wpAny_bind (wpAny_pure ?_)))))
  show wpAny _ _ (pure ((items.size:Int) -1,(-1:Int),Builtin.Slice.slicePlaces ((items.size:Int) -1) (-1) (-1))) _ _ s
  have hp:Builtin.Slice.slicePlaces ((items.size:Int) -1) (-1) (-1)=items.size:=by
   unfold Builtin.Slice.slicePlaces
   rw[if_neg (by decide),show(- -1:Int)=1 by decide,Int.ediv_one]
   split<;>omega
  rw[hp]
  exact wpAny_pure hR
 refine wpAny_bind (happ ?_)
 have hno:¬(((items.size:Int) -1==0&&(-1:Int)==1&&items.size==items.size)=true):=by
  intro q
  rw[Bool.and_eq_true,Bool.and_eq_true] at q
  exact absurd q.1.2 (by decide)
 show wpAny _ _ (if((items.size:Int) -1==0&&(-1:Int)==1&&items.size==items.size)=true then _ else _) _ _ s
 rw[if_neg hno,zlw]
 first
  |exact wpAny_bind (m:=Builtin.Tuple.tupleExact _) (wpAny_newObj_type (wpAny_pure ⟨_,rfl,wpAny_pure h⟩) htake)
  |exact wpAny_bind (m:=Builtin.Tuple.tupleExact _) (wpAny_newObj_type (wpAny_bind (wpAny_pure (wpAny_pure ⟨_,rfl,wpAny_pure h⟩))) htake)
  |exact wpAny_bind (wpAny_bind (m:=Builtin.Tuple.tupleExact _) (wpAny_newObj_type (wpAny_pure (wpAny_pure ⟨_,rfl,wpAny_pure h⟩)) htake))
  |exact wpAny_bind (wpAny_bind (m:=Builtin.Tuple.tupleExact _) (wpAny_newObj_type (wpAny_pure ⟨_,rfl,wpAny_pure h⟩) htake))
end
end HT
namespace L2
open PySem PySem.Spec PyProof.Rows
section
variable{X:Cx}{e:Expr}{te:TE}{p1 p2 p3 pos:Pos}{tk:Tok}
def zn9(K:PySem.W.Frag)(te:TE):TE:=λσ H Q=>te σ H λx H1=>∃a xs,x= .ref a/\SqT K H1 a xs/\∀p,H1 p=none->Q (.ref p) (upd H1 p (.tup xs.reverse))
theorem Vals.rev:∀{xs:List V} {us:List Value},Vals xs us->Vals xs.reverse us.reverse
 |_,_, .nil=> .nil
 |x::xs,u::us, .cons r t=>by
  rw[List.reverse_cons,List.reverse_cons]
  exact(Vals.rev t).append (.cons r .nil)
theorem zoi{st:Expr}(he:PE X e te)(hst:PE X st (tUn (rU λi=> .int (-i)) (tC (.int 1)))):PE X (.Subscript e (.Slice none none (some st) p2) pos) (zn9 X.K te):=by
 intro pins s σ H Q I h
 refine Subscript_ (thn (he pins s σ H _ I h) λv s1 ⟨x,H1,I1,r1,q1⟩=>?_)
 refine wpAny_Slice ?_
 rw[evalPart_none,evalPart_some]
 refine wpAny_pure (wpAny_pure ?_)
 refine thn (hst pins s1 σ H1 (λy H2=>y= .int (-1)/\H2=H1) I1 ⟨1,rfl,rfl,rfl⟩) λvst s3 ⟨y,H3,I3,r3,ey,eh⟩=>?_
 subst ey eh
 obtain⟨tk,rfl⟩:=r3
 obtain⟨a,xs,rfl,hx,q⟩:=q1
 cases r1
 have I4:Inv X pins σ _ {s3 with heap:=s3.heap.push {cls:= .type "slice",data:= .fields #[.none, .none, .int (-1) tk]}}:=I3.kept (t':=s3.toks) λb ob q=>Heap.get?_push_of_some _ q
 obtain⟨its,r,ht,hz⟩:=I4.tuple hx
 have hlen:its.toArray.size=xs.length:=by rw[List.size_toArray];exact r.length.symm
 show wpAny (model X.prog X.w) X.A (subscriptTail e (.Slice none none (some st) p2) (.ref a) (.ref s3.heap.objs.size)) (EP X pins σ Q) X.xe {s3 with heap:=s3.heap.push {cls:= .type "slice",data:= .fields #[.none, .none, .int (-1) tk]}}
 refine tail_any (ops:=[.ref a, .ref s3.heap.objs.size]) ht.typeIs PyProof.Rows.slot_tuple_getitem.lookup ?_ (by with_unfolding_all rfl)
 refine HT.getItem_tuple_rev (tk:=tk) ht (Heap.IsSliceOf.new ..) ?_ (by rw[hlen];exact hz)
 refine⟨.ref _,_,I4.laid (t':=s3.toks) (o:= .tup xs.reverse) (λb ob q=>Heap.get?_push_of_some _ q) (Nat.le_refl _) ?_,rfl,q _ (I4.hok.fresh (Nat.le_refl _))⟩
 exact⟨by rw[List.length_reverse];exact hz,_,r.rev,IsTup.new _ _,NoDict.new rfl (Heap.get?_push_size _ rfl)⟩
theorem zpV{st:Expr}(he:QE X e te)(hst:QE X st (tUn (rU λi=> .int (-i)) (tC (.int 1)))):QE X (.Subscript e (.Slice none none (some st) p2) pos) (zn9 X.K te):=⟨zoi he.o hst.o⟩
end
end L2
namespace HT
open PySem PySem.Spec PyProof.Rows
section
variable{prog:Program}{w:World}{A:Around}{E:Value->Shared->Prop}{s:Shared}
theorem getItem_tuple_whole{t sl:Addr}{items:Array Value}{vl vu:Value}{lo hi:Option Int}{Q:Value->Shared->Prop}(ht:IsTup s.heap t items)(hs:s.heap.IsSliceOf sl vl vu .none)(pl:IsPart vl lo)(pu:IsPart vu hi)
 (h1:sIx items.size 0 lo=0) (h2:sIx items.size items.size hi=items.size)
 (h:Q (.ref t) s):wpAny (model prog w) A (getItem (.ref t) (.ref sl)) Q E s:=by
 obtain⟨os,hos,hcs,hds⟩:=id hs
 have hTs:s.TypeIs (.ref sl) "slice":=⟨os,hos,hcs⟩
 unfold getItem
 try with_reducible refine wpAny_holding ?_
 first|refine wpAny_bind (wpAny_pure ?_)|skip
 refine wpAny_bind (wpAny_sequenceKey ht.typeIs (by decide) ?_)
 refine wpAny_bind (wpAny_callSpecial?_slot (name:=Str.ofString "__getitem__") ht.typeIs PyProof.Rows.slot_tuple_getitem
  (wpAny_call_entry PyProof.Rows.slot_tuple_getitem ht.typeIs entry_tuple_getitem ?_ (args_tuple_getitem _ _)))
 show wpAny _ _ (Builtin.Tuple.tupleItemsOf (.ref t)>>=_) _ _ s
 refine wpAny_bind (tupleItemsOf_ ht ?_)
 refine wpAny_bind (wpAny_typeOf hTs ?_)
 rw[if_pos (by decide)]
 refine wpAny_bind (zcc hs pl pu ?_)
 rw[h1,h2]
 show wpAny _ _ (if(((0:Nat):Int)==0&&(1:Int)==1&&(items.size -0)==items.size)=true then _ else _) _ _ s
 rw[if_pos (by simp)]
 unfold Builtin.Tuple.tupleIsExact
 refine wpAny_bind (wpAny_bind (wpAny_typeOf ht.typeIs (wpAny_pure ?_)))
 rw[if_pos (by decide)]
 refine wpAny_bind (wpAny_rule ?_)
 exact wpAny_pure ⟨_,rfl,wpAny_pure h⟩
end
end HT
namespace L2
open PySem PySem.Spec PyProof.Rows
section
variable{X:Cx}{K:PySem.W.Frag}
def zpl(K:PySem.W.Frag):V->Option Int->Option Int->Hp->VK->Prop:=λx lo hi H Q=>∃a xs,x= .ref a/\SqT K H a xs/\
 (zaY xs lo hi=xs->Q (.ref a) H)/\∀p,H p=none->Q (.ref p) (upd H p (.tup (zaY xs lo hi)))
theorem zaH:SlR X (zpl X.K):=by
 intro pins s σ H x v vl vu lo hi sl Q I rx hs pl pu h
 obtain⟨a,xs,rfl,hx,q1,q2⟩:=h
 by_cases hw:HT.sIx xs.length 0 lo=0/\HT.sIx xs.length xs.length hi=xs.length
 ·have rx':v= .ref a:=rx
  subst rx'
  obtain⟨its,r,ht,hz⟩:=I.tuple hx
  have hlen:its.toArray.size=xs.length:=by rw[List.size_toArray];exact r.length.symm
  refine⟨"tuple",_,PyProof.Rows.slot_tuple_getitem.lookup,ht.typeIs,?_⟩
  refine HT.getItem_tuple_whole ht hs pl pu (by rw[hlen];exact hw.1) (by rw[hlen];exact hw.2) ⟨.ref a,H,I,rfl,q1 ?_⟩
  unfold zaY
  rw[hw.1,hw.2];simp
 ·exact zoh pins s σ H (.ref a) v vl vu lo hi sl Q I rx hs pl pu ⟨a,xs,rfl,hx,hw,q2⟩
end
end L2
namespace RW
open PySem PySem.Spec PyProof.Rows L2
section
variable{te tf:TE}{ta:TA}{σ:L2.St}{H:Hp}{d:D}{ds es:List D}{K:PySem.W.Frag}
end
theorem zjV:∀x∈keptL,x≠"nowhere":=by decide +kernel
theorem zjW:ziW "nowhere"=false:=by decide +kernel
theorem zjo(f st sp j k:Nat):zbc f st sp j k≠"nowhere":=by
 unfold zbc
 split
 ·exact zjV _ (zis sp k)
 ·intro z
  have e:=zjW
  rw[←z] at e
  unfold nmS at e
  rw[zhB] at e
  cases e
section
variable{te:TE}{ta:TA}{tb:TS}{De:Ends}{σ:L2.St}{H:Hp}{d:D}{ds es:List D}{K:PySem.W.Frag}{k j:Nat}{g:D->Bool}{l lf:Addr}{m:Nat}
end
section
variable{x h t l a:D}
end
section
variable{te tf:TE}{ta:TA}{tb:TS}{De:Ends}{σ:L2.St}{H:Hp}{d:D}{ds es:List D}{K:PySem.W.Frag}{k j:Nat}{g:D->Bool}{m:Nat}
theorem zaC{H H':Hp}{p:Addr}(s:Same H H')(h:H' p=none):H p=none:=by
 cases e:H p with
 |none=>rfl
 |some o=>have:=s _ _ e;rw[h] at this;cases this
end
theorem zP{x:Str}(h:zh x=true):PyData.strOk x=true:=by
 unfold zh at h
 simp only[Bool.and_eq_true] at h
 have h2:=h.1.2
 unfold PyData.strOk
 rw[Array.all_eq_true']
 intro c hc
 have:=List.all_eq_true.mp h2 c (by simpa using hc)
 unfold zja at this
 simp only[Bool.and_eq_true,decide_eq_true_eq] at this
 exact decide_eq_true (by omega)
theorem zV{α:Type}[DecidableEq α]:∀{l m:List α},l.Nodup->(∀x∈l,x∈m)->l.length<=m.length
 |[],m,_,_=>Nat.zero_le _
 |a::l,m,hn,hs=>by
  have ha:=hs a List.mem_cons_self
  have:=zV (l:=l) (m:=m.erase a) (List.nodup_cons.mp hn).2 λx hx=>(List.mem_erase_of_ne (λz:x=a=>(List.nodup_cons.mp hn).1 (by rw[←z];exact hx))).mpr (hs x (List.mem_cons_of_mem _ hx))
  rw[List.length_erase_of_mem ha] at this
  have:1<=m.length:=List.length_pos_of_mem ha
  rw[List.length_cons]
  omega
theorem TownOk.lp{g:Str}{hs:List Str}{ps:List (Str×Str)}{lks hds:List D}(T:TownOk g hs ps lks hds):ps.length<=100:=by
 have nd:ps.Nodup:=T.riseP.imp λ{a b} h z=>by rw[z,zgb] at h;cases h
 have:=zV (m:=hs.flatMap λa=>hs.map λb=>(a,b)) nd λp hp=>by
  obtain⟨h1,h2,_⟩:=T.ties p hp
  exact List.mem_flatMap.mpr ⟨p.1,h1,List.mem_map.mpr ⟨p.2,h2,rfl⟩⟩
 have h2:=zg7 (F:=λa=>hs.map λb=>(a,b)) (m:=10) (λa=>by rw[List.length_map];exact T.ten) hs
 have:=T.ten
 omega
end RW
namespace RW
theorem zc6{b:Bool}{X Y:Prop}(h:b=true)(x:X):if b=true then X else Y:=by rw[if_pos h];exact x
theorem zbC{b:Bool}{X Y:Prop}(h:b=false)(y:Y):if b=true then X else Y:=by rw[if_neg (by rw[h];decide)];exact y
end RW
namespace L2
open PySem PySem.W PySem.Spec PyProof.Rows
section
variable{prog:Program}{w:World}{A:Around}{E:Value->Shared->Prop}{s:Shared}
theorem zd1{r:Addr}{T:String}{o:Obj}{vs:List Value}{n:Nat}{R:List Value->Shared->Prop}(hT:T="list"\/T="tuple")(ho:s.heap.get? r=some o)(hc:o.cls= .type T)(hd:o.data= .seq vs.toArray n)(hz:vs.length<=sizeLine)
 (q:∀(h':Heap),(∀b o,s.heap.get? b=some o->h'.get? b=some o)->s.heap.objs.size<h'.objs.size->R vs {s with heap:=h'}):wpAny (model prog w) A (collect (.ref r)) R E s:=by
 have lt:=Heap.lt_size ho
 have hne:r≠s.heap.objs.size:=Nat.ne_of_lt lt
 have g0:(s.heap.push {cls:= .type "list",data:= .seq ([]:List Value).toArray}).get? s.heap.objs.size=some (seqObj "list" #[] 0):=Heap.get?_push_size _ rfl
 have gr:(s.heap.push {cls:= .type "list",data:= .seq ([]:List Value).toArray}).get? r=some o:=Heap.get?_push_of_some _ ho
 obtain⟨e1,g1⟩:∃e1,((s.heap.push {cls:= .type "list",data:= .seq ([]:List Value).toArray}).update s.heap.objs.size (Obj.mapSeq λx=>x ++vs.toArray)).get? s.heap.objs.size=some (seqObj "list" ((#[]:Array Value)++vs.toArray) e1):=⟨_,get?_update_seq g0 λx=>x ++vs.toArray⟩
 have u1:=Heap.SameBut.update (s.heap.push {cls:= .type "list",data:= .seq ([]:List Value).toArray}) s.heap.objs.size (Obj.mapSeq λx=>x ++vs.toArray)
 unfold collect
 refine wpAny_bind (wpAny_runValue (codeAny_builtin entry_proto_collect' (by
  rw[Around.under_plainId PySem.F.plain_proto_collect _]
  show wpAny _ A.in1 (newList []>>=λl=>again (.builtin "list.__iadd__" ⟨[l, .ref r],[]⟩)) _ _ s
  refine wpAny_bind (wpAny_newObj_type (wpAny_pure ⟨plainId_quiet PySem.F.plain_list_iadd _,codeAny_builtin entry_list_iadd' (by
   rw[Around.under_plainId PySem.F.plain_list_iadd _]
   show wpAny _ A.in1 (Builtin.List.listExtendWith (.ref s.heap.objs.size) (.ref r) (.ref s.heap.objs.size)) _ _ _
   unfold Builtin.List.listExtendWith
   have hty:({s with heap:=s.heap.push {cls:= .type "list",data:= .seq ([]:List Value).toArray}}:Shared).TypeIs (.ref r) T:=⟨o,gr,hc⟩
   refine wpAny_bind (wpAny_typeOf hty ?_)
   rw[if_pos (by rcases hT with rfl|rfl<;>simp)]
   refine wpAny_bind (listItems_at gr hd (wpAny_bind (listItems_at g0 rfl ?_)))
   rw[if_neg (by simp)]
   refine wpAny_bind (listUpdate_at g0 rfl ?_ (Nat.zero_le _) (by show((#[]:Array Value)++vs.toArray).size<=_;simp;omega))
   refine wpAny_pure ?_
   show wpAny _ A (load s.heap.objs.size>>=_) _ _ _
   refine wpAny_bind (wpAny_load g1 (wpAny_pure ?_))
   have ev:((#[]:Array Value)++vs.toArray).toList=vs:=by simp
   show R ((#[]:Array Value)++vs.toArray).toList _
   rw[ev]
   exact q _ (λb o e=>(u1.2 b (Nat.ne_of_lt (Heap.lt_size e))).trans (Heap.get?_push_of_some _ e)) (Heap.lt_size g1))⟩)))))
theorem zec{l:Addr}{T:String}{o:Obj}{vs:List Value}{n:Nat}{ss:List Str}{Q:Value->Shared->Prop}(hT:T="list"\/T="tuple")(ho:s.heap.get? l=some o)(hc:o.cls= .type T)(hd:o.data= .seq vs.toArray n)(hS:StrsAre vs ss)(h64:vs.length<64)
 (q:∀(D:Addr) (out:Array Value) (ss':List Str) (h':Heap) (e:Nat),StrsAre out.toList ss'->ss'.Perm ss->sortedS ss'=true->(∀b o,s.heap.get? b=some o->h'.get? b=some o)->s.heap.objs.size<=D->h'.get? D=some (seqObj "list" out e)->Q (.ref D) {s with heap:=h'}):
 wpAny (model prog w) A (call (.builtin "sorted") [.ref l]) Q E s:=by
 refine Calls.call_function_entry kind_sorted plain_sorted entry_sorted (args_sorted1 _) ?_
 unfold Builtin.«sorted»
 refine wpAny_bind (m:=checkCount "sorted" 1 1 _) (wpAny_pure (wpAny_bind (zd1 hT ho hc hd (by rw[sizeLine_eq];omega) λh1 kp gr0=>?_)))
 refine wpAny_bind (wpAny_newList ?_ (by show vs.length<=_;rw[sizeLine_eq];omega))
 have hD:(h1.push (seqObj "list" vs.toArray 0)).get? h1.objs.size=some (seqObj "list" vs.toArray 0):=Heap.get?_push_size _ rfl
 have k2:∀b o,s.heap.get? b=some o->(h1.push (seqObj "list" vs.toArray 0)).get? b=some o:=λb o e=>Heap.get?_push_of_some _ (kp b o e)
 have gr:s.heap.objs.size<=h1.objs.size:=Nat.le_of_lt gr0
 show wpAny _ _ _ _ _ {s with heap:=h1.push (seqObj "list" vs.toArray 0)}
 refine wpAny_bind (wpAny_holding (wpAny_call_entry slot_list_sort ⟨_,hD,rfl⟩ entry_list_sort (list_sort_treeK strKind_oneLt (s:={s with heap:=h1.push (seqObj "list" vs.toArray 0)}) hD hS.keysOf (λv1 v2 rest e=>?_) h64 λst' hp hs=>?_) (args_list_sort _)))
 ·subst e
  exact keyKind_strs hS
 ·obtain ⟨ss',a1,a2,a3⟩:=sorted_out_str hS hp hs
  obtain⟨e,he⟩:=sortedHeap_at (h:=h1.push (seqObj "list" vs.toArray 0)) (vs:=vs) (out:=Array.map (λx=>x.snd) (arrOf st')) hD
  refine⟨_,rfl,wpAny_pure ⟨_,rfl,q h1.objs.size _ ss' _ e a1 a2 a3 (λb o hb=>?_) gr he⟩⟩
  have lb:=Heap.lt_size hb
  rw[sortedHeap_old (Nat.ne_of_lt (Nat.lt_of_lt_of_le lb gr)) (Heap.lt_size (k2 b o hb))]
  exact k2 b o hb
end
section
variable{X:Cx}{K:PySem.W.Frag}
def zmi(K:PySem.W.Frag):List V->Hp->VK->Prop:=λxs H Q=>∃(p:Addr) (ss:List Str),xs=[.ref p]/\(SqL K H p (ss.map V.str)\/SqT K H p (ss.map V.str))/\ss.length<64/\∀(ss':List Str) l,ss'.Perm ss->sortedS ss'=true->H l=none->Q (.ref l) (upd H l (.lst (ss'.map V.str)))
theorem zdH:CallR X (.builtin "sorted") (zmi X.K):=by
 intro pins s σ H xs us Q I r h
 obtain⟨p,ss,rfl,hq,h64,q⟩:=h
 obtain⟨u,rfl,ru⟩:=zb6 r
 cases ru
 have key:∀{its:List Value} {T:String} {o:Obj} {n:Nat},T="list"\/T="tuple"->s.heap.get? p=some o->o.cls= .type T->o.data= .seq its.toArray n->Vals (ss.map V.str) its->wpAny (model X.prog X.w) X.A (call (.builtin "sorted") [.ref p]) (EP X pins σ Q) X.xe s:=by
  intro its T o n hT ho hc hd rv
  have hS:=zbo rv
  have hl:=rv.length
  rw[List.length_map] at hl
  refine zec hT ho hc hd hS (by omega) λD out ss' h' e a1 a2 a3 kp hD he=>?_
  refine⟨.ref D,_,I.laid (a:=D) (o:= .lst (ss'.map V.str)) (t':=s.toks) kp hD ⟨?_,out.toList,e,?_,?_⟩,rfl,q ss' D a2 a3 (I.hok.fresh hD)⟩
  ·rw[List.length_map,a2.length_eq];exact Nat.le_of_lt (zn (by omega))
  ·have mk:∀{vs:List Value} {zs:List Str},StrsAre vs zs->Vals (zs.map V.str) vs:=by
    intro vs zs h
    induction h with
    |nil=>exact .nil
    |cons x t _ ih=>exact .cons ⟨t,rfl⟩ ih
   exact mk a1
  ·rw[Array.toArray_toList];exact he
 rcases hq with hq|hq
 ·obtain ⟨its,rv,pl,hz⟩:=I.list hq
  obtain⟨o,ho,hc,n,hd⟩:=pl.isList
  exact key (.inl rfl) ho hc hd rv
 ·obtain ⟨its,rv,pl,hz⟩:=I.tuple hq
  obtain⟨o,ho,hc,n,hd⟩:=pl
  exact key (.inr rfl) ho hc hd rv
end
end L2
namespace RW
open PySem PySem.Spec PyProof.Rows L2
theorem zeq{hs:List Str}{x:Str}:inV (.str x) (hs.map V.str)=hs.any λy=>decide (y=x):=by
 unfold inV
 rw[List.any_map]
 congr 1
theorem zdN{hs:List Str}:(hs.map V.str).all zdG=true:=by
 rw[List.all_map,List.all_eq_true]
 exact λ_ _=>rfl
theorem zcN{H:Hp}{v:V}{xs:List Str}(h:Rep H v (.tup (xs.map D.str))):∃p,v= .ref p/\H p=some (.tup (xs.map V.str)):=by
 obtain⟨p,vs,rfl,hp,r,_⟩:=h.ofT
 refine⟨p,rfl,?_⟩
 have e:vs=xs.map V.str:=by
  apply List.ext_getElem?
  intro i
  rcases Nat.lt_or_ge i xs.length with hi|hi
  ·have hv:i<vs.length:=by rw[r.1,List.length_map];exact hi
   have:=r.2 i vs[i] (.str xs[i]) (by simp[hv]) (by simp[hi])
   rw[List.getElem?_eq_getElem hv,List.getElem?_map,List.getElem?_eq_getElem hi]
   generalize vs[i]=z at this
   cases this
   rfl
  ·rw[List.getElem?_eq_none (by rw[r.1,List.length_map];exact hi),List.getElem?_eq_none (by rw[List.length_map];exact hi)]
 rw[←e];exact hp
theorem zpr{H:Hp}{v:V}{d1 d2 d3 d4 d5:D}(h:Rep H v (.tup [d1,d2,d3,d4,d5])):∃p x1 x2 x3 x4 x5,v= .ref p/\H p=some (.tup [x1,x2,x3,x4,x5])/\Rep H x1 d1/\Rep H x2 d2/\Rep H x3 d3/\Rep H x4 d4/\Rep H x5 d5:=by
 obtain⟨p,vs,rfl,hp,r,_⟩:=h.ofT
 match vs,r with
 |[x1,x2,x3,x4,x5],r=>exact ⟨p,x1,x2,x3,x4,x5,rfl,hp,r.head.1,r.head.2.head.1,r.head.2.head.2.head.1,r.head.2.head.2.head.2.head.1,r.head.2.head.2.head.2.head.2.head.1⟩
 |[],r=>exact absurd r.1 (by simp)
 |[_],r=>exact absurd r.1 (by simp)
 |[_,_],r=>exact absurd r.1 (by simp)
 |[_,_,_],r=>exact absurd r.1 (by simp)
 |[_,_,_,_],r=>exact absurd r.1 (by simp)
 |_::_::_::_::_::_::_,r=>exact absurd r.1 (by simp)
def zo6(H:Hp)(v:V)(g:Str)(hs:List Str)(ps:List (Str×Str))(lks hds:List D):Prop:=∃p pr pt pl pa vt vl va,v= .ref p/\H p=some (.tup [.str g, .ref pr, .ref pt, .ref pl, .ref pa])/\H pr=some (.tup (hs.map V.str))/\H pt=some (.tup vt)/\RepL H vt (ps.map RW.pairD)/\H pl=some (.tup vl)/\RepL H vl lks/\H pa=some (.tup va)/\RepL H va hds
theorem zbv{H:Hp}{v:V}{g:Str}{hs:List Str}{ps:List (Str×Str)}{lks hds:List D}(h:Rep H v (zaB g hs ps lks hds)):zo6 H v g hs ps lks hds:=by
 obtain⟨p,x1,x2,x3,x4,x5,rfl,hp,r1,r2,r3,r4,r5⟩:=zpr h
 cases r1 with|str _ _=>
 obtain⟨pr,rfl,hpr⟩:=zcN r2
 obtain⟨pt,vt,rfl,hpt,rt,_⟩:=r3.ofT
 obtain⟨pl,vl,rfl,hpl,rl,_⟩:=r4.ofT
 obtain⟨pa,va,rfl,hpa,ra,_⟩:=r5.ofT
 exact⟨p,pr,pt,pl,pa,vt,vl,va,rfl,hp,hpr,hpt,rt,hpl,rl,hpa,ra⟩
def zef(ps:List (Str×Str))(x:Str):List Str:=(ps.filter λp=>decide (p.2=x)).map (·.1)++(ps.filter λp=>decide (p.1=x)).map (·.2)
theorem mem_nbrs{ps:List (Str×Str)}{x y:Str}:y∈zef ps x↔(y,x)∈ps\/(x,y)∈ps:=by
 unfold zef
 rw[List.mem_append,List.mem_map,List.mem_map]
 constructor
 ·rintro (⟨⟨a,b⟩,h,rfl⟩|⟨⟨a,b⟩,h,rfl⟩)
  ·obtain ⟨h1,h2⟩:=List.mem_filter.mp h
   have h2:b=x:=of_decide_eq_true h2
   subst h2
   exact .inl h1
  ·obtain ⟨h1,h2⟩:=List.mem_filter.mp h
   have h2:a=x:=of_decide_eq_true h2
   subst h2
   exact .inr h1
 ·rintro (h|h)
  ·exact .inl ⟨(y,x),List.mem_filter.mpr ⟨h,decide_eq_true rfl⟩,rfl⟩
  ·exact .inr ⟨(x,y),List.mem_filter.mpr ⟨h,decide_eq_true rfl⟩,rfl⟩
theorem TownOk.ps_nd{g:Str}{hs:List Str}{ps:List (Str×Str)}{lks hds:List D}(T:TownOk g hs ps lks hds):ps.Nodup:=T.riseP.imp λ{a b} h z=>by rw[z,zgb] at h;cases h
theorem TownOk.hs_nd{g:Str}{hs:List Str}{ps:List (Str×Str)}{lks hds:List D}(T:TownOk g hs ps lks hds):hs.Nodup:=T.rise.imp λ{a b} h z=>by rw[z,zes] at h;cases h
theorem ziD{g:Str}{hs:List Str}{ps:List (Str×Str)}{lks hds:List D}(T:TownOk g hs ps lks hds)(x:Str):(zef ps x).Nodup:=by
 have nd:=T.ps_nd
 unfold zef
 rw[List.nodup_append]
 refine⟨?_,?_,?_⟩
 ·rw[List.nodup_iff_pairwise_ne,List.pairwise_map]
  refine List.Pairwise.imp_of_mem (λ{a b} ha hb hab z=>?_) (nd.filter _)
  have h1:a.2=x:=of_decide_eq_true (List.mem_filter.mp ha).2
  have h2:b.2=x:=of_decide_eq_true (List.mem_filter.mp hb).2
  exact hab (Prod.ext z (h1.trans h2.symm))
 ·rw[List.nodup_iff_pairwise_ne,List.pairwise_map]
  refine List.Pairwise.imp_of_mem (λ{a b} ha hb hab z=>?_) (nd.filter _)
  have h1:a.1=x:=of_decide_eq_true (List.mem_filter.mp ha).2
  have h2:b.1=x:=of_decide_eq_true (List.mem_filter.mp hb).2
  exact hab (Prod.ext (h1.trans h2.symm) z)
 ·intro y hy z hz e
  subst e
  obtain⟨a,ha,rfl⟩:=List.mem_map.mp hy
  obtain⟨b,hb,eb⟩:=List.mem_map.mp hz
  obtain⟨ha1,ha2⟩:=List.mem_filter.mp ha
  obtain⟨hb1,hb2⟩:=List.mem_filter.mp hb
  have h1:a.2=x:=of_decide_eq_true ha2
  have h2:b.1=x:=of_decide_eq_true hb2
  have l1:=(T.ties a ha1).2.2
  have l2:=(T.ties b hb1).2.2
  rw[h1] at l1
  rw[h2,eb] at l2
  have:=zcj l1
  rw[l2] at this
  cases this
theorem znk{g:Str}{hs:List Str}{ps:List (Str×Str)}{lks hds:List D}(T:TownOk g hs ps lks hds){x y:Str}(h:y∈zef ps x):y∈hs:=by
 rcases mem_nbrs.mp h with h|h
 ·exact (T.ties _ h).1
 ·exact (T.ties _ h).2.1
theorem zki{g:Str}{hs:List Str}{ps:List (Str×Str)}{lks hds:List D}(T:TownOk g hs ps lks hds)(x:Str):(zef ps x).length<=10:=Nat.le_trans (zV (ziD T x) λy hy=>znk T hy) T.ten
structure WayOk(g:Str)(hs:List Str)(ps:List (Str×Str))(ws:List Str):Prop where
 nd:ws.Nodup
 mem:∀x∈ws,x∈hs
 last:∃w0,ws=w0 ++ [g]
 tied:∀(i:Nat) (a b:Str),ws[i]?=some a->ws[i+1]?=some b->b∈zef ps a
theorem zgM{J:It}{vs:List V}{ps:List (Str×Str)}{sel:Str×Str->Bool}{f:Str×Str->Str}{ok:Hp->Prop}{g:TG}{tc:TT}{te:TE}{H:Hp}{src:List (Option Nat)}{σ:L2.St}{Q:VK}(Iv:L2.St->Prop)(wk:Wk J vs.length (λi x=>vs[i]?=some x) ok)(hok:∀H',Same H H'->ok H')(r:RepL H vs (ps.map RW.pairD))(hl:ps.length<=900)(h0:Iv (zdk src σ))
 (hs:∀(q:Addr) (p:Str×Str) (σ':L2.St) (H1:Hp) (A:V->Hp->L2.St->Prop) (B:L2.St->Hp->Prop),Iv σ'->Same H H1->H1 q=some (.tup [.str p.1, .str p.2])->p∈ps->(∀σ2,Iv σ2->if sel p=true then A (.str (f p)) H1 σ2 else B σ2 H1)->g (.ref q) σ' H1 λσ2 H3=>tc σ2 H3 λb H4=>if b=true then te σ2 H4 (λy H5=>A y H5 σ2)else B σ2 H4)
 (q:∀l H',Same H H'->H l=none->H' l=some (.lst (((ps.filter sel).map f).map V.str))->Q (.ref l) H'):zcu g tc te src σ Q J H:=by
 refine zba wk (λl i ys σ' H'=>Iv σ'/\ys=(((ps.take i).filter sel).map f).map V.str/\Same H H') ?_ ?_ ?_ ?_
 ·exact λl h'=>⟨h0,rfl,Same.new h'⟩
 ·exact λl i ys σ' H' _ p=>hok H' p.2.2
 ·rintro l i y ys σ' H1 h' hi hy ⟨iv,rfl,s1⟩ hl'
  obtain⟨d,hd,rd⟩:=r.get hy
  rw[List.getElem?_map] at hd
  cases hp:ps[i]? with
  |none=>rw[hp] at hd;cases hd
  |some p=>
   rw[hp] at hd
   cases hd
   obtain⟨q,x,y,rfl,hq,r1,r2⟩:=(rd.same s1).of2
   cases r1 with|str _ _=>
   cases r2 with|str _ _=>
   refine hs q p σ' H1 (λy H5 σ2=>H5 l=some (.lst ((((ps.take i).filter sel).map f).map V.str))/\((((ps.take i).filter sel).map f).map V.str).length<sizeLine/\Iv σ2/\(((ps.take i).filter sel).map f).map V.str ++ [y]=(((ps.take (i+1)).filter sel).map f).map V.str/\Same H (upd H5 l (.lst ((((ps.take i).filter sel).map f).map V.str ++ [y])))) (λσ2 H4=>H4 l=some (.lst ((((ps.take i).filter sel).map f).map V.str))/\Iv σ2/\(((ps.take i).filter sel).map f).map V.str=(((ps.take (i+1)).filter sel).map f).map V.str/\Same H H4) iv s1 hq (List.mem_of_getElem? hp) λσ2 iv2=>?_
   have tk:((ps.take (i+1)).filter sel)=((ps.take i).filter sel)++ [p].filter sel:=by rw[List.take_add_one,hp,List.filter_append];rfl
   cases hsel:sel p with
   |false=>
    refine zbC rfl ⟨hl',iv2,?_,s1⟩
    rw[tk]
    simp[hsel]
   |true=>
    refine zc6 rfl ⟨hl',?_,iv2,?_,?_⟩
    ·rw[List.length_map,List.length_map]
     have h2:=List.length_filter_le sel (ps.take i)
     rw[List.length_take] at h2
     exact zn (by omega)
    ·rw[tk]
     simp[hsel]
    ·exact λc o e=>by
      rw[ze (zi e h')]
      exact s1 _ _ e
 ·rintro l ys σ' H1 h' ⟨iv,rfl,s1⟩ hl'
  have e:ps.length=vs.length:=by rw[r.1,List.length_map]
  rw[←e,List.take_length] at hl'
  exact q l H1 s1 h' hl'
theorem zjA{H:Hp}{us:List V}{xs:List Str}(r:RepL H us (xs.map D.str)):us=xs.map V.str:=by
 apply List.ext_getElem?
 intro i
 rcases Nat.lt_or_ge i xs.length with hi|hi
 ·have hv:i<us.length:=by rw[r.1,List.length_map];exact hi
  have:=r.2 i us[i] (.str xs[i]) (by simp[hv]) (by simp[hi])
  rw[List.getElem?_eq_getElem hv,List.getElem?_map,List.getElem?_eq_getElem hi]
  generalize us[i]=z at this
  cases this
  rfl
 ·rw[List.getElem?_eq_none (by rw[r.1,List.length_map];exact hi),List.getElem?_eq_none (by rw[List.length_map];exact hi)]
def zq(xs:List Str):List PyData:=xs.map PyData.str
section
variable{X:Cx}{K:PySem.W.Frag}
end
section
variable{te tf:TE}{ta:TA}{σ:L2.St}{H:Hp}{d:D}{ds es:List D}{K:PySem.W.Frag}
end
section
variable{te tf:TE}{ta:TA}{tb:TS}{De:Ends}{σ:L2.St}{H:Hp}{d:D}{ds es:List D}{K:PySem.W.Frag}{k:Nat}
end
theorem zex:∀{l m:List Str},l.Pairwise (λa b=>ltS a b=true)->m.Pairwise (λa b=>ltS a b=true)->(∀x,x∈l↔x∈m)->l=m
 |[],[],_,_,_=>rfl
 |[],b::m,_,_,h=>absurd ((h b).mpr List.mem_cons_self) List.not_mem_nil
 |a::l,[],_,_,h=>absurd ((h a).mp List.mem_cons_self) List.not_mem_nil
 |a::l,b::m,p,q,h=>by
  obtain⟨p1,p2⟩:=List.pairwise_cons.mp p
  obtain⟨q1,q2⟩:=List.pairwise_cons.mp q
  have e:a=b:=by
   rcases List.mem_cons.mp ((h a).mp List.mem_cons_self)with z|z
   ·exact z
   rcases List.mem_cons.mp ((h b).mpr List.mem_cons_self)with y|y
   ·exact y.symm
   have:=zcj (q1 a z)
   rw[p1 b y] at this;cases this
  subst e
  rw[zex p2 q2 λx=>⟨λhx=>?_,λhx=>?_⟩]
  ·rcases List.mem_cons.mp ((h x).mp (List.mem_cons_of_mem _ hx))with rfl|z
   ·have:=p1 x hx;rw[zes] at this;cases this
   ·exact z
  ·rcases List.mem_cons.mp ((h x).mpr (List.mem_cons_of_mem _ hx))with rfl|z
   ·have:=q1 x hx;rw[zes] at this;cases this
   ·exact z
theorem zd4:∀{xs ys:List Str},PyData.eqvAll (zq xs) (zq ys)=decide (xs=ys)
 |[],[]=>by unfold zq;rw[List.map_nil,PyData.eqvAll];rfl
 |[],y::ys=>by unfold zq;rw[List.map_nil,List.map_cons,PyData.eqvAll];rfl
 |x::xs,[]=>by unfold zq;rw[List.map_nil,List.map_cons,PyData.eqvAll];rfl
 |x::xs,y::ys=>by
  have ih:=zd4 (xs:=xs) (ys:=ys)
  unfold zq at ih⊢
  rw[List.map_cons,List.map_cons,PyData.eqvAll,PyData.eqv,ih,Bool.eq_iff_iff,decide_eq_true_iff,List.cons.injEq]
  simp
theorem zc7:∀{xs:List Str},PyData.depthAll (zq xs)<=1
 |[]=>by unfold zq;rw[List.map_nil,PyData.depthAll];decide
 |x::xs=>by
  have ih:=zc7 (xs:=xs)
  unfold zq at ih⊢
  rw[List.map_cons,PyData.depthAll,PyData.depth]
  omega
end RW
namespace L2
open PySem PySem.Spec PyProof.Rows
structure FunD(K:PySem.W.Frag)(x qual:Str)(st:Stmt)(f:Addr)(fd:FuncData):Prop where
 ex:∃(oc:Value) (od:Option Addr) (dt:Addr) (kV doc pm:Value) (an:Option Addr) (cdv ct:Value) (osl:Array (Option Value)) (od2:Option Addr) (n2:Nat) (sl2:Array (Option Value)),
  fd=PySem.W.fnOf x qual (zr st) (zp st) (zd st) (.ref dt) kV doc pm an cdv ct/\K.lookup f=some ⟨oc,od, .func fd,osl⟩/\PySem.W.codeIn K cdv qual=true/\K.lookup dt=some ⟨.type "tuple",od2, .seq #[.none] n2,sl2⟩
 kp:PySem.W.keepIn K (.ref f)=true
section
variable{P:Program}{w:World}{K:PySem.W.Frag}{mg:Str->Option Value}{base:Heap}
theorem FunD.okQ{x qual:Str}{st:Stmt}{f:Addr}{fd:FuncData}{N ps:List Str}{k:Nat}{sp:Sp}(F:FunD K x qual st f fd)(S:FnScope N ps (zd st))(len:∀vs H Q E,sp vs H Q E->vs.length=ps.length)
 (hbody:∀(cdv:Value) (A:Around) (outer:List Env) (s:Shared) (H:Hp) (vs:List V) (Q:VK) (E:XK),Room k (A.deeper (envOfC qual (zd st) s.heap.objs.size f cdv))->sp vs H Q E->
   ∃t,QB (zgL CX0 P w K mg base N qual (zd st) f cdv A outer s H E).nox (zp st) t/\t {nx:=λ_ H'=>Q .non H',rt:=Q} (start N vs) H):FnOk P w K mg base CX0 (k+1) f fd ps sp:=by
 obtain⟨oc,od,dt,kV,doc,pm,an,cdv,ct,osl,od2,n2,sl2,rfl,lk,hcd,ld⟩:=F.ex
 refine znX lk hcd S len λA outer s H vs Q E hr hsp=>?_
 obtain⟨t,h,q⟩:=hbody cdv A outer s H vs Q E hr hsp
 exact⟨t,h.o.nox,q⟩
theorem ziE{x qual:Str}{st:Stmt}{f dt:Addr}{oc:Value}{od an od2:Option Addr}{osl sl2:Array (Option Value)}{n2:Nat}{kV doc pm cdv ct:Value}(l:K.lookup f=some ⟨oc,od, .func (PySem.W.fnOf x qual (zr st) (zp st) (zd st) (.ref dt) kV doc pm an cdv ct),osl⟩)
 (ld:K.lookup dt=some ⟨.type "tuple",od2, .seq #[.none] n2,sl2⟩) (c:PySem.W.codeIn K cdv qual=true) (k:PySem.W.keepIn K (.ref f)=true):FunD K x qual st f (PySem.W.fnOf x qual (zr st) (zp st) (zd st) (.ref dt) kV doc pm an cdv ct):=⟨⟨oc,od,dt,kV,doc,pm,an,cdv,ct,osl,od2,n2,sl2,rfl,l,c,ld⟩,k⟩
theorem FunD.binds{x qual:Str}{st:Stmt}{f:Addr}{fd:FuncData}{ps:List Str}{ds:List Value}(F:FunD K x qual st f fd)(m:Nat)(hm:ps.length=m+ds.length)
 (h:∀(dt:Addr) (kV doc pm:Value) (an:Option Addr) (cdv ct:Value) (us:List Value),us.length=m->∃k:Option (Array Value)->Sem (List (Str×Value)),bindArgs (PySem.W.fnOf x qual (zr st) (zp st) (zd st) (.ref dt) kV doc pm an cdv ct) ⟨us,[]⟩=seqItems? (.ref dt)>>=k/\k (some #[.none])=pure (ps.zip (us ++ds))):Binds K fd ps ds:=by
 obtain⟨oc,od,dt,kV,doc,pm,an,cdv,ct,osl,od2,n2,sl2,rfl,lk,hcd,ld⟩:=F.ex
 intro s us kin hl
 obtain⟨k,e1,e2⟩:=h dt kV doc pm an cdv ct us (by rw[List.length_append] at hl;omega)
 exact BindsTo.of_defaults (T:=dt) rfl (kin _ _ ld) rfl e1 e2
end
end L2
namespace RW
open PySem PySem.Spec PyProof.Rows L2
structure AtD(K:PySem.W.Frag)(mg:Str->Option Value)(x:Str)(st:Stmt)(ps:List Str)(f:Addr)(fd:FuncData):Prop where
 fn:FunD K x x st f fd
 b:Binds K fd ps []
 bd:Binds K fd ps [.none]
 mg:mg x=some (.ref f)
 kp:PySem.W.keepIn K (.ref f)=true
def zu(O:List Str):D->Bool| .tup [_, .str x]=>decide (x∈O)|_=>true
def zaa(O:List Str):D->Bool| .tup [.str w,e]=>if w="not"then zu O e else zu O (.tup [.str w,e])|_=>true
def zc0(O:List Str):D->Bool| .tup ds=>ds.all (zaa O)|_=>true
def zbL(O:List Str):D->Bool| .tup [c,t]=>zc0 O c&&zu O t|_=>true
def zaq(O:List Str):D->Bool| .tup ds=>ds.all (zbL O)|_=>true
structure Pool(hs:List Str)(lks hds:List D)(O:List Str):Prop where
 few:O.length<=14
 nm:∀x∈O,zh x=true
 hs:∀x∈hs,x∈O
 lk:∀d∈lks,zaq O d=true
 hd:∀d∈hds,zaq O d=true
def zf8(O:List Str)(d:D):Bool:=zQ d&&zbL O d
def zgv(O:List Str)(d:D):Bool:=zbh d&&zbL O d
theorem zbD{O:List Str}{y:D}{x:Str}(h:x∈O):zu O (.tup [y, .str x])=true:=decide_eq_true h
theorem zgf{O:List Str}{w:Str}{e:D}(h:zE (.tup [.str w,e])=true)(hp:zu O (.tup [.str w,e])=true):zaa O (.tup [.str w,e])=true:=by
 show(if w="not"then _ else _)=true
 by_cases z:w="not"
 ·subst z;rw[zcU] at h;cases h
 ·rw[if_neg z];exact hp
theorem zj4{O:List Str}{d:D}(h:zE d=true)(hp:zu O d=true):zaa O d=true:=by
 obtain⟨x,e,rfl⟩:=zcw d h
 exact zgf h hp
theorem zhZ{O:List Str}{d:D}(hp:zu O d=true):zaa O (.tup [.str "not",d])=true:=by
 show(if("not":Str)="not"then zu O d else zu O (.tup [.str "not",d]))=true
 rw[if_pos rfl];exact hp
theorem zfI{O:List Str}{ds:List D}{t:D}(h:∀d∈ds,zaa O d=true)(ht:zu O t=true):zbL O (.tup [.tup ds,t])=true:=by
 show(ds.all (zaa O)&&zu O t)=true
 rw[List.all_eq_true.mpr h,ht];rfl
end RW
namespace L2
open PySem PySem.Spec PyProof.Rows
section
variable{X:Cx}{pos:Pos}{pins:List (Addr×Obj)}{σ:St}{H:Hp}{s:Shared}
end
end L2
namespace RW
open PySem PySem.Spec PyProof.Rows L2
def phB(ws ms:List Str)(to:Option Str)(w:Str)(x:D):Bool:=
 if w="by"then (match x with| .str y=>ws.any λz=>decide (z=y)|_=>false)
 else if w="from"then (match x with| .str y=>decide (ws[1]?=some y)|_=>false)
 else if w="to"then (match x with| .str y=>decide (to=some y)|_=>false)
 else if w="mark"then (match x with| .str y=>ms.any λz=>decide (z=y)|_=>false)
 else(match x with| .int i=>decide (i<(ws.length:Int))|_=>false)
def zdh(ws ms:List Str)(to:Option Str):D->Bool| .tup [.str w,x]=>phB ws ms to w x|_=>false
def zbb(ws ms:List Str)(to:Option Str):D->Bool| .tup [.str w,x]=>if w="not"then !zdh ws ms to x else phB ws ms to w x|_=>false
def TO(v:V)(to:Option Str):Prop:=(v= .non/\to=none)\/∃x,v= .str x/\to=some x/\zh x=true
theorem zbF{x:Str}{e:D}(h:zE (.tup [.str x,e])=true):(x="long"/\∃i:Int,e= .int i/\0<=i/\i<=99)\/(x∈namingL/\∃y,e= .str y/\zh y=true):=by
 rw[zdw] at h
 by_cases z:x="long"
 ·rw[if_pos z] at h
  cases e with
  |int i=>
   have h:(decide (0<=i)&&decide (i<=99))=true:=h
   rw[Bool.and_eq_true,decide_eq_true_iff,decide_eq_true_iff] at h
   exact .inl ⟨z,i,rfl,h.1,h.2⟩
  |_=>cases h
 ·rw[if_neg z,Bool.and_eq_true] at h
  obtain⟨h1,h2⟩:=h
  obtain⟨y,hy,ey⟩:=List.any_eq_true.mp h1
  have ey:y=x:=of_decide_eq_true ey
  subst ey
  cases e with
  |str y'=>exact .inr ⟨hy,y',rfl,h2⟩
  |_=>cases h2
theorem zgi{x:Str}(h:x∈namingL):x="by"\/x="from"\/x="to"\/x="mark":=by
 unfold namingL at h
 simpa using h
theorem zpW{ws ms:List Str}{to:Option Str}{y:Str}:phB ws ms to "by" (.str y)=ws.any λz=>decide (z=y):=by
 unfold phB;rw[if_pos rfl]
theorem zl7{ws ms:List Str}{to:Option Str}{y:Str}:phB ws ms to "from" (.str y)=decide (ws[1]?=some y):=by
 unfold phB;rw[if_neg (by decide +kernel),if_pos rfl]
theorem zpc{ws ms:List Str}{to:Option Str}{y:Str}:phB ws ms to "to" (.str y)=decide (to=some y):=by
 unfold phB;rw[if_neg (by decide +kernel),if_neg (by decide +kernel),if_pos rfl]
theorem znp{ws ms:List Str}{to:Option Str}{y:Str}:phB ws ms to "mark" (.str y)=ms.any λz=>decide (z=y):=by
 unfold phB;rw[if_neg (by decide +kernel),if_neg (by decide +kernel),if_neg (by decide +kernel),if_pos rfl]
theorem zl3{ws ms:List Str}{to:Option Str}{i:Int}:phB ws ms to "long" (.int i)=decide (i<(ws.length:Int)):=by
 unfold phB;rw[if_neg (by decide +kernel),if_neg (by decide +kernel),if_neg (by decide +kernel),if_neg (by decide +kernel)]
theorem TO.eq{v:V}{to:Option Str}{y:Str}(h:TO v to):zoF v (.str y)=true/\decide (v= .str y)=decide (to=some y):=by
 rcases h with⟨rfl,rfl⟩|⟨x,rfl,rfl,_⟩
 ·exact ⟨rfl,rfl⟩
 ·refine ⟨rfl,?_⟩
  rw[zch,Bool.eq_iff_iff,decide_eq_true_iff,decide_eq_true_iff,Option.some.injEq]
theorem zap{H:Hp}{p:Addr}{xs:List Str}(e:H p=some (.tup (xs.map V.str)))(h:∀x∈xs,PyData.strOk x=true):Tr H (.ref p) (.tuple (zq xs)):=by
 refine .tup e (by unfold zq;rw[List.length_map,List.length_map]) λi v d e1 e2=>?_
 unfold zq at e2
 rw[List.getElem?_map] at e1 e2
 cases e3:xs[i]? with
 |none=>rw[e3] at e1;cases e1
 |some x=>
  rw[e3] at e1 e2
  cases e1
  cases e2
  exact .str x (h x (List.mem_of_getElem? e3))
theorem zbQ{xs ys:List Str}:(PyData.tuple (zq xs)).eqv (.tuple (zq ys))=decide (xs=ys):=by
 rw[PyData.eqv,zd4]
theorem zau{xs:List Str}:(PyData.tuple (zq xs)).depth<=60:=by
 have:=zc7 (xs:=xs)
 rw[PyData.depth]
 omega
def zdE(c:D->Bool)(g:List Str->List Str->Option Str->D->Bool):Sp:=λvs H Q _=>∃(v:V) (d:D) (pw pm:Addr) (vt:V) (ws ms:List Str) (to:Option Str),vs=[v, .ref pw, .ref pm,vt]/\Rep H v d/\c d=true/\H pw=some (.tup (ws.map V.str))/\H pm=some (.tup (ms.map V.str))/\TO vt to/\(∀x∈ws,zh x=true)/\(∀x∈ms,zh x=true)/\1<=ws.length/\ws.length<=100/\ms.length<=100/\∀H',Same H H'->Q (.bl (g ws ms to d)) H'
theorem zgV{c:D}(h:zW c=true):∃cs,c= .tup cs/\cs.length<=4/\∀d∈cs,zL d=true:=by
 cases c with
 |tup cs=>
  rw[zgH,Bool.and_eq_true] at h
  exact⟨cs,rfl,of_decide_eq_true h.1,List.all_eq_true.mp h.2⟩
 |_=>cases h
theorem zkg{d:D}{f:D->D->Bool}(h:(match d with| .tup [c,x]=>f c x|_=>false)=true):∃c x,d= .tup [c,x]/\f c x=true:=by
 split at h
 ·exact ⟨_,_,rfl,h⟩
 ·cases h
theorem zfp{d:D}(h:zQ d=true):∃cs x,d= .tup [.tup cs,x]/\cs.length<=4/\(∀c∈cs,zL c=true)/\(x= .non\/∃i,x= .int i):=by
 unfold zQ at h
 obtain⟨c,x,rfl,h⟩:=zkg (f:=λc x=>zW c&&zad x&&!zcl c) h
 rw[Bool.and_eq_true,Bool.and_eq_true] at h
 obtain⟨cs,rfl,h4,hc⟩:=zgV h.1.1
 refine⟨cs,x,rfl,h4,hc,?_⟩
 have hx:=h.1.2
 cases x with
 |non=>exact .inl rfl
 |int i=>exact .inr ⟨i,rfl⟩
 |_=>cases hx
theorem zoG{x:D}(h:zbe x=true):(x= .tup [.str "keep"])\/∃w y,x= .tup [.str w, .str y]/\(w="put"\/w="strike")/\zh y=true:=by
 unfold zbe at h
 split at h
 ·rename_i w
  exact .inl (by rw[of_decide_eq_true h])
 ·rename_i w y
  rw[Bool.and_eq_true,Bool.or_eq_true] at h
  have h2:=h.2
  cases y with
  |str y=>exact .inr ⟨w,y,rfl,h.1.imp of_decide_eq_true of_decide_eq_true,h2⟩
  |_=>cases h2
 ·cases h
theorem zmI{d:D}(h:zbh d=true):∃cs x,d= .tup [.tup cs,x]/\cs.length<=4/\(∀c∈cs,zL c=true)/\zbe x=true:=by
 unfold zbh at h
 obtain⟨c,x,rfl,h⟩:=zkg (f:=λc x=>zW c&&zbe x) h
 rw[Bool.and_eq_true] at h
 obtain⟨cs,rfl,h4,hc⟩:=zgV h.1
 exact⟨cs,x,rfl,h4,hc,h.2⟩
theorem zjg{O:List Str}{cs:List D}{t:D}(h:zbL O (.tup [.tup cs,t])=true):(∀c∈cs,zaa O c=true)/\zu O t=true:=by
 have h:(cs.all (zaa O)&&zu O t)=true:=h
 rw[Bool.and_eq_true] at h
 exact⟨List.all_eq_true.mp h.1,h.2⟩
section
variable{te tf:TE}{ta:TA}{tb:TS}{De:Ends}{σ:L2.St}{H:Hp}{d:D}{ds es:List D}{K:PySem.W.Frag}{k:Nat}
end
end RW
namespace HT
open PySem PySem.Spec PyProof.Rows
section
variable{prog:Program}{w:World}{A:Around}{E:Value->Shared->Prop}{s:Shared}
theorem zeb:∀{vs:List Value} {ys:List Str},StrsAre vs ys->vs.length=ys.length/\∀(i:Nat) (y:Str),ys[i]?=some y->∃t,vs[i]?=some (.str y t)
 |_,_, .nil=>⟨rfl,λi y h=>by simp at h⟩
 |_,_, .cons y t r=>by
  obtain⟨h1,h2⟩:=zeb r
  refine⟨by simp[h1],λi z h=>?_⟩
  cases i with
  |zero=>cases h;exact⟨t,rfl⟩
  |succ i=>exact h2 i z h
theorem index_tup{t:Addr}{items:Array Value}{ys:List Str}{x:Str}{tk:Tok}{j:Nat}{Q:Value->Shared->Prop}(ht:IsTup s.heap t items)(hS:StrsAre items.toList ys)(hj:ys[j]?=some x)(hb:∀i<j,ys[i]?≠some x)
 (h:∀(t':Tok) (k:Nat),Q (.int j t') {s with toks:=k}):wpAny (model prog w) A (call (.builtin "tuple.index") [.ref t, .str x tk]) Q E s:=by
 refine wpAny_call_entry PySem.F.slot_tuple_index ht.typeIs PySem.F.entry_tuple_index ?_ (PySem.F.args_tuple_index_2 _ _)
 unfold Builtin.«tuple.index»
 refine wpAny_bind (m:=selfAndSome "tuple.index" "index" 1 3 _) (wpAny_pure ?_)
 dsimp only
 refine wpAny_bind (tupleItemsOf_ ht ?_)
 refine wpAny_bind (wpAny_pure ?_)
 refine wpAny_bind (wpAny_pure ?_)
 obtain⟨hl,hg⟩:=zeb hS
 have hjn:j<items.size:=by
  rw[←Array.length_toList,hl]
  rcases Nat.lt_or_ge j ys.length with z|z
  ·exact z
  ·rw[List.getElem?_eq_none z] at hj;cases hj
 rw[Std.Legacy.Range.forIn_eq_forIn_range']
 refine wpAny_bind (wpAny_forIn_list _ (λl b s'=>∃i,l=List.range' i (items.size -i) 1/\i<=j/\b=(none,())/\s'=s) _ ?_ ?_ _ _ ?_)
 ·rintro a rest b s' ⟨i,el,hij,rfl,rfl⟩
  obtain⟨m,em⟩:∃m,items.size -i=m+1:=⟨items.size -i -1,by omega⟩
  rw[em,List.range'_succ] at el
  have ea:=(List.cons.inj el).1
  have er:=(List.cons.inj el).2
  subst er
  rw[ea]
  have hiy:i<ys.length:=by rw[←hl,Array.length_toList];omega
  obtain⟨t1,e1⟩:=hg i ys[i] (by simp[hiy])
  have e2:items[i]?=some (.str ys[i] t1):=by rw[←Array.getElem?_toList];exact e1
  rw[e2]
  dsimp only
  refine wpAny_bind (wpAny_eqBool_str ?_)
  rcases Nat.lt_or_ge i j with z|z
  ·have ne:¬ys[i]=x:=λy=>hb i z (by rw[←y];simp[hiy])
   rw[decide_eq_false ne]
   exact wpAny_pure ⟨i+1,by rw[show items.size -(i+1)=m by omega],by omega,rfl,rfl⟩
  ·have ei:i=j:=by omega
   subst ei
   have ey:ys[i]=x:=by
    have:ys[i]?=some ys[i]:=by simp[hiy]
    rw[this] at hj;exact Option.some.inj hj
   rw[decide_eq_true ey]
   refine wpAny_bind (m:=retInt _) (wpAny_bind (wpAny_mkInt (wpAny_pure (wpAny_pure ?_))))
   exact wpAny_pure ⟨_,rfl,h _ _⟩
 ·rintro b s' ⟨i,el,hij,rfl,rfl⟩
  have:=congrArg List.length el
  rw[List.length_range',List.length_nil] at this
  omega
 ·exact ⟨0,by simp[Std.Legacy.Range.size],Nat.zero_le _,rfl,rfl⟩
end
section
variable{prog:Program}{w:World}{A:Around}{E:Value->Shared->Prop}{s:Shared}
theorem zdJ{it d:Addr}{i:Nat}{items:Array Value}{x:Value}{Q:Value->Shared->Prop}(y:s.heap.IsTupleIter it d i)(ht:s.heap.IsTuple d items)(hx:items[i]?=some x)
 (q:∀h',h'.IsTupleIter it d (i+1)->Heap.SameBut it s.heap h'->Q x {s with heap:=h'}):wpAny (model prog w) A (Builtin.SmallTypes.nextOf (.ref it)) Q E s:=by
 obtain⟨o,ho,hc,hd⟩:=id y
 obtain⟨od,hod,hcd,n,hdd⟩:=id ht
 unfold Builtin.SmallTypes.nextOf
 refine wpAny_bind (wpAny_callSpecial?_slot (name:=Str.ofString "__next__") ⟨o,ho,hc⟩ PySem.F.slot_tuple_iterator_next (wpAny_call_entry PySem.F.slot_tuple_iterator_next ⟨o,ho,hc⟩ PySem.F.entry_tuple_iterator_next ?_ (PySem.F.args_tuple_iterator_next_1 _)))
 show wpAny _ _ (slotArgs "__next__" 0 _>>=_) _ _ s
 refine wpAny_bind (m:=slotArgs "__next__" 0 _) (wpAny_pure ?_)
 dsimp only
 refine wpAny_bind (wpAny_field ho hd (x:= .ref d) rfl ?_)
 rw[if_neg (λz=>nomatch z)]
 refine wpAny_bind (wpAny_field ho hd (x:= .int i 0) rfl ?_)
 dsimp only
 rw[seqItems?.eq_1]
 refine wpAny_bind (wpAny_bind (wpAny_load hod ?_))
 rw[hdd]
 refine wpAny_pure ?_
 dsimp only
 rw[Int.toNat_natCast,hx]
 dsimp only
 refine wpAny_bind (wpAny_setField ho hd (by simp) ?_)
 refine wpAny_pure ⟨_,rfl,wpAny_pure (q _ ⟨_,Heap.get?_update_self _ ho (Obj.isFreed_of_fields (Obj.data_mapFields hd _)),(Obj.cls_mapFields ..).trans hc,?_⟩ (Heap.SameBut.update ..))⟩
 rw[Obj.data_mapFields hd];simp[rawInt]
theorem zd0{it d:Addr}{i:Nat}{items:Array Value}{Q:Value->Shared->Prop}(hh:A.handled=none)(y:s.heap.IsTupleIter it d i)(ht:s.heap.IsTuple d items)(hx:items[i]?=none)
 (q:∀(h':Heap) (e:Addr),Heap.ExtBut it s.heap h'->(∃o,h'.get? e=some o/\o.cls= .type "StopIteration")->E (.ref e) {s with heap:=h'}):wpAny (model prog w) A (Builtin.SmallTypes.nextOf (.ref it)) Q E s:=by
 obtain⟨o,ho,hc,hd⟩:=id y
 obtain⟨od,hod,hcd,n,hdd⟩:=id ht
 unfold Builtin.SmallTypes.nextOf
 refine wpAny_bind (wpAny_callSpecial?_slot (name:=Str.ofString "__next__") ⟨o,ho,hc⟩ PySem.F.slot_tuple_iterator_next (wpAny_call_entry PySem.F.slot_tuple_iterator_next ⟨o,ho,hc⟩ PySem.F.entry_tuple_iterator_next ?_ (PySem.F.args_tuple_iterator_next_1 _)))
 show wpAny _ _ (slotArgs "__next__" 0 _>>=_) _ _ s
 refine wpAny_bind (m:=slotArgs "__next__" 0 _) (wpAny_pure ?_)
 dsimp only
 refine wpAny_bind (wpAny_field ho hd (x:= .ref d) rfl ?_)
 rw[if_neg (λz=>nomatch z)]
 refine wpAny_bind (wpAny_field ho hd (x:= .int i 0) rfl ?_)
 dsimp only
 rw[seqItems?.eq_1]
 refine wpAny_bind (wpAny_bind (wpAny_load hod ?_))
 rw[hdd]
 refine wpAny_pure ?_
 dsimp only
 rw[Int.toNat_natCast,hx]
 dsimp only
 refine wpAny_bind (wpAny_rule ?_)
 refine wpAny_bind (wpAny_setField ho hd (by simp) ?_)
 show wpAny _ _ (newExc (.type "StopIteration") []>>=_) _ _ _
 refine wpAny_bind (by
  simp only[newExc,newTuple]
  refine wpAny_bind (wpAny_newObj_type (wpAny_bind (m:=firstArgMember _ _) (wpAny_of_eq (a:=Value.none) (by first|rfl|(simp only[firstArgMember];rfl)) (wpAny_newObj_type ?_ (by size_fits)))) (by size_fits))
  simp only[raiseNew]
  refine wpAny_bind (wpAny_handled ?_)
  rw[show A.in1.handled=none from hh]
  refine wpAny_bind (wpAny_pure (wpAny_throw ?_))
  exact q _ _ (((Heap.SameBut.update ..).extBut.push _).push _) ⟨_,Heap.get?_push_size _ rfl,rfl⟩)
theorem zgN(hh:A.handled=none)(it l:Addr)(hne:l≠it)(items:Array Value):Draws prog w A it [it,l] items.size (λi v=>items[i]?=some v) (λi h=>h.IsTupleIter it l i/\h.IsTuple l items) where
 live:=λi h st=>let ⟨o,e,_⟩:=st.1;⟨o,e⟩
 frame:=λi h h' st k=>⟨st.1.at λo e=>k it (by simp) o e,let⟨o,e,r⟩:=st.2;⟨o,k l (by simp) o e,r⟩⟩
 item:=λi s Q E hi st q=>zdJ st.1 st.2 (x:=items[i]) (by simp[hi]) λh' y' sb=>q _ h' s.toks (by simp[hi]) ⟨y',let⟨o,e,r⟩:=st.2;⟨o,(sb.2 l hne).trans e,r⟩⟩ sb
 done:=λs Q E st q=>zd0 hh st.1 st.2 (by simp) q
end
section
variable{prog:Program}{w:World}{A:Around}{E:Value->Shared->Prop}{s:Shared}
end
end HT
namespace L2
open PySem PySem.Spec PyProof.Rows
section
variable{X:Cx}{K:PySem.W.Frag}
def zmK(K:PySem.W.Frag):V->List V->Hp->VK->Prop:=λx vs H Q=>∃(p:Addr) (ys:List Str) (y:Str) (j:Nat),x= .ref p/\vs=[.str y]/\SqT K H p (ys.map V.str)/\ys[j]?=some y/\(∀i<j,ys[i]?≠some y)/\Q (.int (j:Int)) H
theorem zfE:MtR X "tuple.index" (zmK X.K):=by
 intro pins s σ H x xs v us Q I rx rs h
 obtain⟨p,ys,y,j,rfl,rfl,hq,hj,hb,q⟩:=h
 cases rx
 obtain⟨u,rfl,ru⟩:=zb6 rs
 obtain⟨t,rfl⟩:=ru
 obtain⟨its,rv,pl,hz⟩:=I.tuple hq
 exact HT.index_tup pl (by simpa using zbo rv) hj hb λt' k=>⟨.int _,H,I.tok _,⟨_,rfl⟩,q⟩
end
end L2
namespace RW
open PySem PySem.Spec PyProof.Rows L2
theorem zj9{hs:List Str}(nd:hs.Nodup){x:Str}{i j:Nat}(h1:hs[i]?=some x)(h2:hs[j]?=some x):i=j:=by
 have lt:∀{k:Nat},hs[k]?=some x->k<hs.length:=λ{k} z=>by
  rcases Nat.lt_or_ge k hs.length with y|y
  ·exact y
  ·rw[List.getElem?_eq_none y] at z;cases z
 have l1:=lt h1
 have l2:=lt h2
 rw[List.getElem?_eq_getElem l1] at h1
 rw[List.getElem?_eq_getElem l2] at h2
 have e:hs[i]=hs[j]:=(Option.some.inj h1).trans (Option.some.inj h2).symm
 have pw:=List.pairwise_iff_getElem.mp nd
 rcases Nat.lt_trichotomy i j with z|z|z
 ·exact absurd e (pw i j l1 l2 z)
 ·exact z
 ·exact absurd e.symm (pw j i l2 l1 z)
theorem zgZ{hs:List Str}(nd:hs.Nodup){x:Str}{j:Nat}(h:hs[j]?=some x):∀i<j,hs[i]?≠some x:=λi hi z=>by
 have:=zj9 nd z h
 omega
def zcH(ws ms:List Str)(to:Option Str)(cs:List D):Bool:=cs.all (zbb ws ms to)
def zc9:D->List D| .tup [.tup cs,_]=>cs|_=> []
def zkH:D->D| .tup [_,t]=>t|_=> .non
def zw(ws ms:List Str):List D->D
 |[]=> .int 0
 |r::rs=>if zcH ws ms none (zc9 r)=true then zkH r else zw ws ms rs
def zin:Sp:=λvs H Q _=>∃(v:V) (cs:List D) (pw pm:Addr) (vt:V) (ws ms:List Str) (to:Option Str),vs=[v, .ref pw, .ref pm,vt]/\Rep H v (.tup cs)/\(∀c∈cs,zL c=true)/\H pw=some (.tup (ws.map V.str))/\H pm=some (.tup (ms.map V.str))/\TO vt to/\(∀x∈ws,zh x=true)/\(∀x∈ms,zh x=true)/\1<=ws.length/\ws.length<=100/\ms.length<=100/\∀H',Same H H'->Q (.bl (zcH ws ms to cs)) H'
def zpU:Sp:=λvs H Q _=>∃(v:V) (x:Str) (g:Str) (hs:List Str) (ps:List (Str×Str)) (lks hds:List D) (j:Nat),vs=[v, .str x]/\Rep H v (zaB g hs ps lks hds)/\TownOk g hs ps lks hds/\hs[j]?=some x/\∀(vr:V) (d:D),lks[j]?=some d->Rep H vr d->Q vr H
def zeo:Sp:=λvs H Q _=>∃(v:V) (pw pm:Addr) (x:Str) (ws ms:List Str) (g:Str) (hs:List Str) (ps:List (Str×Str)) (lks hds:List D) (j:Nat) (rs:List D),vs=[v, .ref pw, .ref pm]/\Rep H v (zaB g hs ps lks hds)/\TownOk g hs ps lks hds/\hs[j]?=some x/\lks[j]?=some (.tup rs)/\H pw=some (.tup ((x::ws).map V.str))/\H pm=some (.tup (ms.map V.str))/\(∀y∈x::ws,zh y=true)/\(∀y∈ms,zh y=true)/\ws.length<=90/\ms.length<=100/\∀(u:V) (H':Hp),Rep H' u (zw (x::ws) ms rs)->Same H H'->Q u H'
theorem ziN{α:Type}{rs:List α}{i:Nat}{d:α}(h:rs[i]?=some d):rs.drop i=d::rs.drop (i+1):=by
 have hi:i<rs.length:=by
  rcases Nat.lt_or_ge i rs.length with y|y
  ·exact y
  ·rw[List.getElem?_eq_none y] at h;cases h
 rw[List.drop_eq_getElem_cons hi]
 rw[List.getElem?_eq_getElem hi] at h
 rw[Option.some.inj h]
mutual
def okD:D->Bool
 | .str x=>PyData.strOk x
 | .tup ds=>okL ds
 | .oth=>false
 | .non=>true
 | .bl _=>true
 | .int _=>true
def okL:List D->Bool
 |[]=>true
 |d::ds=>okD d&&okL ds
end
mutual
def pyD:D->PyData
 | .non=> .none
 | .bl b=> .bool b
 | .int i=> .int i
 | .str x=> .str x
 | .tup ds=> .tuple (pyL ds)
 | .oth=> .none
def pyL:List D->List PyData
 |[]=> []
 |d::ds=>pyD d::pyL ds
end
theorem zdq:∀{ds:List D},pyL ds=ds.map pyD
 |[]=>by rw[pyL];rfl
 |d::ds=>by rw[pyL,List.map_cons,zdq]
theorem zku:∀{ds:List D},(∀d∈ds,okD d=true)->okL ds=true
 |[],_=>by rw[okL]
 |d::ds,h=>by rw[okL,h d List.mem_cons_self,zku λe he=>h e (List.mem_cons_of_mem _ he)];rfl
def leS(a b:Str):Bool:=!ltS b a
def srt(l:List Str):List Str:=l.mergeSort leS
theorem zn0(a b c:Str)(h1:leS a b=true)(h2:leS b c=true):leS a c=true:=by
 unfold leS at *
 rw[Bool.not_eq_true'] at *
 cases h:ltS c a with
 |false=>rfl
 |true=>
  by_cases e:a=b
  ·subst e;rw[h] at h2;cases h2
  ·have ab:ltS a b=true:=zbO (λz=>e z.symm) h1
   have:=zeD h ab
   rw[this] at h2;cases h2
theorem zne(a b:Str):(leS a b||leS b a)=true:=by
 unfold leS
 cases h:ltS b a with
 |false=>rfl
 |true=>rw[zcj h];rfl
theorem zdu(l:List Str):(srt l).Perm l:=List.mergeSort_perm l leS
theorem zhd{l:List Str}(nd:l.Nodup):(srt l).Pairwise (λa b=>ltS a b=true):=by
 have h1:(srt l).Pairwise (λa b=>leS a b=true):=List.pairwise_mergeSort zn0 zne l
 have h2:(srt l).Nodup:=(zdu l).nodup_iff.mpr nd
 refine(h1.and h2).imp λ{a b} h=>?_
 obtain⟨ha,hn⟩:=h
 unfold leS at ha
 rw[Bool.not_eq_true'] at ha
 exact zbO (λz=>hn z.symm) ha
theorem zoH{ts l:List Str}(hp:ts.Perm l)(hs:sortedS ts=true)(nd:l.Nodup):ts=srt l:=
 zex (zgd ts hs (hp.nodup_iff.mpr nd)) (zhd nd) λx=>by rw[hp.mem_iff,(zdu l).mem_iff]
def zaX(t:List Str)(w m:Str):List Str:=t.filter (λx=>!decide (x=m))++(if w="put"then [m] else [])
theorem zdX{t:List Str}{w m:Str}(nd:t.Nodup):(zaX t w m).Nodup:=by
 unfold zaX
 rw[List.nodup_append]
 refine⟨nd.filter _,?_,?_⟩
 ·split<;>simp
 ·intro a ha b hb e
  split at hb
  ·rw[List.mem_singleton.mp hb] at e
   have:=(List.mem_filter.mp ha).2
   rw[e] at this
   simp at this
  ·cases hb
theorem zjD{t O:List Str}{w m:Str}(h:∀x∈t,x∈O)(hm:m∈O):∀x∈zaX t w m,x∈O:=by
 unfold zaX
 refine List.forall_mem_append.mpr ⟨λx hx=>h x (List.mem_filter.mp hx).1,λx hx=>?_⟩
 split at hx
 ·rw[List.mem_singleton.mp hx];exact hm
 ·cases hx
def ziI(t:List Str)(w m:Str):List Str:=srt (zaX t w m)
structure Mk(O t:List Str):Prop where
 nd:t.Nodup
 mem:∀x∈t,x∈O
theorem Mk.next{O t:List Str}{w m:Str}(h:Mk O t)(hm:m∈O):Mk O (ziI t w m) where
 nd:=(zdu _).nodup_iff.mpr (zdX h.nd)
 mem:=λx hx=>zjD h.mem hm x ((zdu _).mem_iff.mp hx)
theorem Mk.len{O t:List Str}(h:Mk O t)(hO:O.length<=14):t.length<=14:=Nat.le_trans (zV h.nd h.mem) hO
def zv(ws:List Str)(to:Option Str):List D->List Str->Option (List Str)
 |[],t=>some t
 |r::rs,t=>if zcH ws t to (zc9 r)=true then(match zkH r with| .tup [.str w, .str m]=>zv ws to rs (ziI t w m)|_=>none)else zv ws to rs t
def zdt(O:List Str)(rs:List D):Prop:=rs.length<=90/\∀r∈rs,∃cs x,r= .tup [.tup cs,x]/\(∀c∈cs,zL c=true)/\(x= .tup [.str "keep"]\/∃w m,x= .tup [.str w, .str m]/\(w="put"\/w="strike")/\m∈O)
theorem zjL{O:List Str}{d:D}(h:zbq d=true)(hi:zaq O d=true):∃rs,d= .tup rs/\zdt O rs:=by
 cases d with
 |tup rs=>
  have h:(decide (rs.length<=90)&&rs.all zbh)=true:=h
  rw[Bool.and_eq_true] at h
  refine⟨rs,rfl,of_decide_eq_true h.1,λr hr=>?_⟩
  obtain⟨cs,x,rfl,h4,hc,hx⟩:=zmI (List.all_eq_true.mp h.2 r hr)
  obtain⟨h1,h2⟩:=zjg (List.all_eq_true.mp hi _ hr)
  refine⟨cs,x,rfl,hc,?_⟩
  rcases zoG hx with rfl|⟨w,y,rfl,hw,_⟩
  ·exact .inl rfl
  ·exact .inr ⟨w,y,rfl,hw,of_decide_eq_true h2⟩
 |_=>cases h
def Told(H:Hp)(u:V):Option (List Str)->Prop
 |none=>u= .non
 |some t=>∃p,u= .ref p/\H p=some (.tup (t.map V.str))
def zph:Sp:=λvs H Q _=>∃(v:V) (x:Str) (g:Str) (hs:List Str) (ps:List (Str×Str)) (lks hds:List D) (j:Nat),vs=[v, .str x]/\Rep H v (zaB g hs ps lks hds)/\TownOk g hs ps lks hds/\hs[j]?=some x/\∀(vr:V) (d:D),hds[j]?=some d->Rep H vr d->Q vr H
def zg3:Sp:=λvs H Q _=>∃(pm:Addr) (v:V) (t:List Str) (w m:Str),vs=[.ref pm,v]/\H pm=some (.tup (t.map V.str))/\Rep H v (.tup [.str w, .str m])/\(∀x∈t,zh x=true)/\zh m=true/\t.Nodup/\t.length<=14/\∀(p:Addr) (H':Hp),H' p=some (.tup ((ziI t w m).map V.str))->Same H H'->Q (.ref p) H'
def zez:Sp:=λvs H Q _=>∃(v:V) (pw pm:Addr) (vt:V) (x:Str) (ws ms:List Str) (to:Option Str) (g:Str) (hs:List Str) (ps:List (Str×Str)) (lks hds:List D) (j:Nat) (rs:List D) (O:List Str),vs=[v, .ref pw, .ref pm,vt]/\Rep H v (zaB g hs ps lks hds)/\TownOk g hs ps lks hds/\hs[j]?=some x/\hds[j]?=some (.tup rs)/\zdt O rs/\O.length<=14/\(∀y∈O,zh y=true)/\Mk O ms/\H pw=some (.tup ((x::ws).map V.str))/\H pm=some (.tup (ms.map V.str))/\TO vt to/\(∀y∈x::ws,zh y=true)/\ws.length<=90/\∀(u:V) (H':Hp),Told H' u (zv (x::ws) to rs ms)->Same H H'->Q u H'
theorem zoR{g:Str}{hs:List Str}{ps:List (Str×Str)}{lks hds:List D}(T:TownOk g hs ps lks hds){x:Str}(h:x∈hs):∃(j:Nat) (d:D),hs[j]?=some x/\hds[j]?=some d/\d∈hds:=by
 obtain⟨j,hj,e⟩:=List.getElem_of_mem h
 have hl:j<hds.length:=by rw[T.lh];exact hj
 exact⟨j,hds[j],by rw[List.getElem?_eq_getElem hj,e],List.getElem?_eq_getElem hl,List.getElem_mem hl⟩
def neD(m:Str):D->Bool| .str z=>!decide (z=m)|_=>false
theorem zoO{t:List Str}{m:Str}:((t.map D.str).filter (neD m)).map (λd=>d)=(t.filter λx=>!decide (x=m)).map D.str:=by
 rw[List.map_id',List.filter_map];rfl
end RW
namespace L2
open PySem PySem.W PySem.Spec PyProof.Rows
section
open PySem.SeqAt
open PySem.AutoSeq1 (wpAny_loadPart')
open PySem.MeetsSeq PySem.MeetsSeq2 PySem.MeetsSeq3
theorem zdp(l b:Addr)(n n2:Nat)(dd dd2:Option Addr)(sl sl2:Array (Option Value))(xs ys:List Value)(k:Nat)(res:Bool):
 Meets (Builtin.«tuple.__lt__» ⟨[.ref l, .ref b],[]⟩) (λA R s=>s.heap.get? l=some {cls:= .type "tuple",dict:=dd,data:= .seq xs.toArray n,slots:=sl}/\s.heap.get? b=some {cls:= .type "tuple",dict:=dd2,data:= .seq ys.toArray n2,slots:=sl2}/\
  (∀prog w i x y,i<k->xs[i]?=some x->ys[i]?=some y->∀(E:Value->Shared->Prop) (Q:Bool->Shared->Prop),Q true s->wpAny (model prog w) A.in1 (eqBool x y) Q E s)/\k<=xs.length/\k<=ys.length/\
  ((k=min xs.length ys.length/\res=decide (xs.length<ys.length))\/∃x y,xs[k]?=some x/\ys[k]?=some y/\(∀prog w (E:Value->Shared->Prop) (Q:Bool->Shared->Prop),Q false s->wpAny (model prog w) A.in1 (eqBool x y) Q E s)/\∀prog w (E:Value->Shared->Prop) (Q:Value->Shared->Prop),Q (.bool res) s->wpAny (model prog w) A.in1 (richCompare .Lt x y) Q E s)/\
  R (.ok (.ret (.bool res))) s):=
 .of_wp λprog w A R s h=>by
  obtain⟨hp,g,d,tk,os⟩:=s
  obtain⟨hl,hb,he,k1,k2,hk,h⟩:=h
  have f2:=AutoSeq1.sub_tuple_tuple
  wp_walk using wpAny_loadPart' hl,wpAny_loadPart' hb,wpAny_forIn_list _ (λrest b s'=>b.1=none/\s'=⟨hp,g,d,tk,os⟩/\∃i,i<=k/\rest=(xs.zip ys).drop i) _
  case turn=>
   rintro⟨p,q⟩ rest b s' ⟨hb',rfl,i,hi,hr⟩
   have hx:(xs.zip ys)[i]?=some (p,q):=by
    have:=congrArg (λl=>l[0]?) hr
    simpa[List.getElem?_drop] using this.symm
   rw[List.getElem?_zip_eq_some] at hx
   have hr2:rest=(xs.zip ys).drop (i+1):=by
    have:=congrArg List.tail hr
    simpa using this
   rcases Nat.lt_or_ge i k with z|z
   ·refine wpAny_bind (he prog w i p q z hx.1 hx.2 _ _ ?_)
    wp_walk
    exact⟨rfl,rfl,i+1,z,hr2⟩
   ·have ei:i=k:=by omega
    subst ei
    rcases hk with⟨hm,_⟩|⟨x,y,ex,ey,f1,f3⟩
    ·have h1:i<xs.length:=by
      rcases Nat.lt_or_ge i xs.length with y|y
      ·exact y
      ·rw[List.getElem?_eq_none y] at hx;cases hx.1
     have h2:i<ys.length:=by
      rcases Nat.lt_or_ge i ys.length with y|y
      ·exact y
      ·rw[List.getElem?_eq_none y] at hx;cases hx.2
     omega
    ·rw[hx.1] at ex
     rw[hx.2] at ey
     cases ex
     cases ey
     refine wpAny_bind (f1 prog w _ _ ?_)
     have c1:=f3 prog w
     wp_walk using c1
     exact⟨_,rfl,h⟩
  case fin=>
   rintro⟨b1,b2⟩ s' ⟨hb',rfl,i,hi,hr⟩
   simp only at hb'
   subst hb'
   have hlen:(xs.zip ys).length<=i:=by
    have:=congrArg List.length hr
    rw[List.length_nil,List.length_drop] at this
    omega
   rw[List.length_zip] at hlen
   rcases hk with⟨hm,hres⟩|⟨x,y,ex,ey,_⟩
   ·wp_walk
    rw[hres] at h
    exact⟨_,rfl,h⟩
   ·have h1:k<xs.length:=by
     rcases Nat.lt_or_ge k xs.length with y|y
     ·exact y
     ·rw[List.getElem?_eq_none y] at ex;cases ex
    have h2:k<ys.length:=by
     rcases Nat.lt_or_ge k ys.length with z|z
     ·exact z
     ·rw[List.getElem?_eq_none z] at ey;cases ey
    omega
  case h=>
   exact⟨rfl,rfl,0,Nat.zero_le _,by simp⟩
end
end L2
namespace L2
open PySem PySem.W PySem.Spec PyProof.Rows RW
def ltL:List Str->List Str->Bool
 |[],[]=>false
 |[],_::_=>true
 |_::_,[]=>false
 |x::xs,y::ys=>if x=y then ltL xs ys else ltS x y
theorem zlC:∀(ps qs:List Str),∃k,k<=ps.length/\k<=qs.length/\(∀i<k,ps[i]?=qs[i]?)/\((k=min ps.length qs.length/\ltL ps qs=decide (ps.length<qs.length))\/∃x y,ps[k]?=some x/\qs[k]?=some y/\x≠y/\ltL ps qs=ltS x y)
 |[],[]=>⟨0,Nat.le_refl _,Nat.le_refl _,λi z=>absurd z (Nat.not_lt_zero _), .inl ⟨rfl,rfl⟩⟩
 |[],q::qs=>⟨0,Nat.le_refl _,Nat.zero_le _,λi z=>absurd z (Nat.not_lt_zero _), .inl ⟨by simp,by rw[ltL];simp⟩⟩
 |p::ps,[]=>⟨0,Nat.zero_le _,Nat.le_refl _,λi z=>absurd z (Nat.not_lt_zero _), .inl ⟨by simp,by rw[ltL];simp⟩⟩
 |p::ps,q::qs=>by
  by_cases e:p=q
  ·subst e
   obtain⟨k,k1,k2,he,hk⟩:=zlC ps qs
   refine⟨k+1,by simp;omega,by simp;omega,λi hi=>?_,?_⟩
   ·cases i with
    |zero=>rfl
    |succ i=>exact he i (by omega)
   ·rw[ltL,if_pos rfl]
    rcases hk with⟨h1,h2⟩|⟨x,y,h1,h2,h3,h4⟩
    ·exact .inl ⟨by simp;omega,by rw[h2];simp⟩
    ·exact .inr ⟨x,y,by simpa using h1,by simpa using h2,h3,h4⟩
  ·exact ⟨0,Nat.zero_le _,Nat.zero_le _,λi z=>absurd z (Nat.not_lt_zero _), .inr ⟨p,q,rfl,rfl,e,by rw[ltL,if_neg e]⟩⟩
section
variable{X:Cx}{K:PySem.W.Frag}
theorem zdI{ps:List Str}{its:List Value}(r:Vals (ps.map V.str) its){i:Nat}{v:Value}(h:its[i]?=some v):∃p t,ps[i]?=some p/\v= .str p t:=by
 have hi:i<its.length:=by
  rcases Nat.lt_or_ge i its.length with z|z
  ·exact z
  ·rw[List.getElem?_eq_none z] at h;cases h
 have hp:i<ps.length:=by have:=r.length;rw[List.length_map] at this;omega
 obtain⟨u,hu,ru⟩:=r.get (i:=i) (x:= .str ps[i]) (by rw[List.getElem?_map,List.getElem?_eq_getElem hp];rfl)
 rw[hu] at h
 cases h
 obtain⟨t,rfl⟩:=ru
 exact⟨ps[i],t,List.getElem?_eq_getElem hp,rfl⟩
theorem zgG{ps:List Str}{its:List Value}(r:Vals (ps.map V.str) its):its.length=ps.length:=by have:=r.length;rw[List.length_map] at this;exact this.symm
theorem zgU{prog:Program}{w:World}{A:Around}{E:Value->Shared->Prop}{s:Shared}{Q:Value->Shared->Prop}{a b:Addr}{ps qs:List Str}{its its2:List Value}(ra:Vals (ps.map V.str) its)(rb:Vals (qs.map V.str) its2)(ha:IsTup s.heap a its.toArray)(hb:IsTup s.heap b its2.toArray)(hu:A.units<cLine)
 (q:Q (.bool (ltL ps qs)) s):wpAny (model prog w) A (richCompare .Lt (.ref a) (.ref b)) Q E s:=by
 obtain⟨⟨c1,d1,e1,f1⟩,ho,hc,n,hd⟩:=id ha
 obtain⟨⟨c2,d2,e2,f2⟩,ho2,hc2,n2,hd2⟩:=id hb
 simp only at hc hd hc2 hd2
 subst hc hd hc2 hd2
 obtain⟨k,k1,k2,he,hk⟩:=zlC ps qs
 have l1:=zgG ra
 have l2:=zgG rb
 refine richCompare_meets_room (op:= .Lt) ⟨_,ho,rfl⟩ ⟨_,ho2,rfl⟩ PySem.F.slot_tuple_lt PySem.F.entry_tuple_lt (PySem.F.args_tuple_lt_2 _ _) (zdp a b n n2 d1 d2 f1 f2 its its2 k (ltL ps qs)) ⟨ho,ho2,?_,by omega,by omega,?_,?_⟩ hu
 ·intro prog w i x y hi hx hy E Q hq
  obtain⟨p,t,hp,rfl⟩:=zdI ra hx
  obtain⟨q',t',hp',rfl⟩:=zdI rb hy
  have e:p=q':=by
   have:=he i hi
   rw[hp,hp'] at this;exact Option.some.inj this
  refine wpAny_eqBool_str ?_
  rw[decide_eq_true e];exact hq
 ·rcases hk with⟨h1,h2⟩|⟨x,y,h1,h2,h3,h4⟩
  ·exact .inl ⟨by omega,by rw[h2,l1,l2]⟩
  ·have hx:k<its.length:=by
    rw[l1]
    rcases Nat.lt_or_ge k ps.length with z|z
    ·exact z
    ·rw[List.getElem?_eq_none z] at h1;cases h1
   have hy:k<its2.length:=by
    rw[l2]
    rcases Nat.lt_or_ge k qs.length with z|z
    ·exact z
    ·rw[List.getElem?_eq_none z] at h2;cases h2
   obtain⟨p,t,hp,e1⟩:=zdI ra (List.getElem?_eq_getElem hx)
   obtain⟨q',t',hp',e2⟩:=zdI rb (List.getElem?_eq_getElem hy)
   rw[h1] at hp
   rw[h2] at hp'
   cases hp
   cases hp'
   refine .inr ⟨_,_,List.getElem?_eq_getElem hx,List.getElem?_eq_getElem hy,λprog w E Q hq=>?_,λprog w E Q hq=>?_⟩
   ·rw[e1,e2]
    refine wpAny_eqBool_str ?_
    rw[decide_eq_false h3];exact hq
   ·rw[e1,e2]
    rw[h4] at hq
    exact(PyProof.Rows.lt_str hq:wpAny (model prog w) A.in1 (compareOp .Lt (.str x t) (.str y t')) Q E s)
 ·exact ⟨(λx=>nomatch x),q⟩
def ltK(k1 k2:Int×Int×List Str):Bool:=if k1.1=k2.1 then(if k1.2.1=k2.2.1 then ltL k1.2.2 k2.2.2 else decide (k1.2.1<k2.2.1))else decide (k1.1<k2.1)
def KeyAt(H:Hp)(x:V)(k:Int×Int×List Str):Prop:=∃a p,x= .ref a/\H a=some (.tup [.int k.1, .int k.2.1, .ref p])/\H p=some (.tup (k.2.2.map V.str))/\∀y∈k.2.2,PyData.strOk y=true
theorem zem:∀(ps:List Str),ltL ps ps=false
 |[]=>rfl
 |p::ps=>by rw[ltL,if_pos rfl];exact zem ps
theorem zfX{x y z:V}{us:List Value}(r:Vals [x,y,z] us):∃a b c,us=[a,b,c]/\RelV x a/\RelV y b/\RelV z c:=by
 cases r with
 |cons h1 r=>cases r with
  |cons h2 r=>cases r with
   |cons h3 r=>
    cases r
    exact⟨_,_,_,rfl,h1,h2,h3⟩
def zp5:R2:=λx y H Q=>∃k1 k2,KeyAt H x k1/\KeyAt H y k2/\Q (.bl (ltK k1 k2)) H
theorem zov(hu:X.A.units+64<cLine):OpR X (compareOp .Lt) zp5:=by
 intro pins s σ H x y v u Q I rx ry h
 obtain⟨⟨i1,n1,ps⟩,⟨i2,n2,qs⟩,⟨a,p,rfl,ha,hp,op⟩,⟨b,p2,rfl,hb,hp2,oq⟩,q⟩:=h
 simp only at ha hp op hb hp2 oq
 cases rx
 cases ry
 obtain⟨its,r1,t1,_⟩:=I.tuple (SqT.of ha)
 obtain⟨its2,r2,t2,_⟩:=I.tuple (SqT.of hb)
 obtain⟨jts,s1,u1,_⟩:=I.tuple (SqT.of hp)
 obtain⟨jts2,s2,u2,_⟩:=I.tuple (SqT.of hp2)
 obtain⟨as,rd1⟩:=(zap hp op).reads I (.ref p) rfl
 obtain⟨bs,rd2⟩:=(zap hp2 oq).reads I (.ref p2) rfl
 obtain⟨_,_,_,rfl,x1,x2,x3⟩:=zfX r1
 obtain⟨_,_,_,rfl,y1,y2,y3⟩:=zfX r2
 obtain⟨ti1,rfl⟩:=x1
 obtain⟨tn1,rfl⟩:=x2
 obtain⟨ti2,rfl⟩:=y1
 obtain⟨tn2,rfl⟩:=y2
 cases x3
 cases y3
 obtain⟨⟨c1,d1,e1,f1⟩,ho,hc,m1,hd⟩:=id t1
 obtain⟨⟨c2,d2,e2,f2⟩,ho2,hc2,m2,hd2⟩:=id t2
 simp only at hc hd hc2 hd2
 subst hc hd hc2 hd2
 have mk:∀(k:Nat) (res:Bool),k<=3->ltK (i1,n1,ps) (i2,n2,qs)=res->
  (∀prog w i x y,i<k->([.int i1 ti1, .int n1 tn1, .ref p]:List Value)[i]?=some x->([.int i2 ti2, .int n2 tn2, .ref p2]:List Value)[i]?=some y->∀(E:Value->Shared->Prop) (Q:Bool->Shared->Prop),Q true s->wpAny (model prog w) X.A.in1 (eqBool x y) Q E s)->
  ((k=3/\res=false)\/∃x y,([.int i1 ti1, .int n1 tn1, .ref p]:List Value)[k]?=some x/\([.int i2 ti2, .int n2 tn2, .ref p2]:List Value)[k]?=some y/\(∀prog w (E:Value->Shared->Prop) (Q:Bool->Shared->Prop),Q false s->wpAny (model prog w) X.A.in1 (eqBool x y) Q E s)/\∀prog w (E:Value->Shared->Prop) (Q:Value->Shared->Prop),Q (.bool res) s->wpAny (model prog w) X.A.in1 (richCompare .Lt x y) Q E s)->
  wpAny (model X.prog X.w) X.A (richCompare .Lt (.ref a) (.ref b)) (EP X pins σ Q) X.xe s:=by
  intro k res hk3 er he hk
  refine richCompare_meets_room (op:= .Lt) ⟨_,ho,rfl⟩ ⟨_,ho2,rfl⟩ PySem.F.slot_tuple_lt PySem.F.entry_tuple_lt (PySem.F.args_tuple_lt_2 _ _) (zdp a b m1 m2 d1 d2 f1 f2 [.int i1 ti1, .int n1 tn1, .ref p] [.int i2 ti2, .int n2 tn2, .ref p2] k res) ⟨ho,ho2,he,hk3,hk3,?_,⟨(λx=>nomatch x),⟨.bl res,H,I,rfl,by rw[←er];exact q⟩⟩⟩ (by omega)
  rcases hk with⟨h1,h2⟩|h
  ·exact .inl ⟨h1,by rw[h2];rfl⟩
  ·exact .inr h
 have intE:∀{i j:Int} {t t':Tok} {b:Bool} (e:(i==j)=b) (prog:Program) (w:World) (E:Value->Shared->Prop) (Q:Bool->Shared->Prop),Q b s->wpAny (model prog w) X.A.in1 (eqBool (.int i t) (.int j t')) Q E s:=λe prog w E Q hq=>wpAny_eqBool_int (by rw[e];exact hq)
 have tupE:∀{b:Bool} (e:decide (ps=qs)=b) (prog:Program) (w:World) (E:Value->Shared->Prop) (Q:Bool->Shared->Prop),Q b s->wpAny (model prog w) X.A.in1 (eqBool (.ref p) (.ref p2)) Q E s:=λ{b} e prog w E Q hq=>SeqAt.eqAt_reads _ _ X.A.in1 s _ _ _ _ rd1 rd2 (zap hp op).can (zap hp2 oq).can (by
  have:=Nat.le_trans (Nat.min_le_left (PyData.tuple (zq ps)).depth (PyData.tuple (zq qs)).depth) zau
  show X.A.units+1+_<cLine
  omega) prog w E Q (by rw[zbQ,e];exact hq)
 by_cases hi:i1=i2
 ·by_cases hn:n1=n2
  ·by_cases hq:ps=qs
   ·refine mk 3 false (Nat.le_refl _) (by unfold ltK;rw[if_pos hi,if_pos hn];subst hq;exact zem _) (λprog w i x y h3 hx hy E Q hQ=>?_) (.inl ⟨rfl,rfl⟩)
    match i,h3,hx,hy with
    |0,_,hx,hy=>cases hx;cases hy;exact intE (by simp[hi]) prog w E Q hQ
    |1,_,hx,hy=>cases hx;cases hy;exact intE (by simp[hn]) prog w E Q hQ
    |2,_,hx,hy=>cases hx;cases hy;exact tupE (decide_eq_true hq) prog w E Q hQ
   ·refine mk 2 (ltL ps qs) (by omega) (by unfold ltK;rw[if_pos hi,if_pos hn]) (λprog w i x y h3 hx hy E Q hQ=>?_) (.inr ⟨_,_,rfl,rfl,tupE (decide_eq_false hq),λprog w E Q hQ=>zgU s1 s2 u1 u2 (by show X.A.units+1<cLine;omega) hQ⟩)
    match i,h3,hx,hy with
    |0,_,hx,hy=>cases hx;cases hy;exact intE (by simp[hi]) prog w E Q hQ
    |1,_,hx,hy=>cases hx;cases hy;exact intE (by simp[hn]) prog w E Q hQ
  ·refine mk 1 (decide (n1<n2)) (by omega) (by unfold ltK;rw[if_pos hi,if_neg hn]) (λprog w i x y h3 hx hy E Q hQ=>?_) (.inr ⟨_,_,rfl,rfl,intE (by simp[hn]),λprog w E Q hQ=>(PyProof.Rows.lt_int hQ:wpAny (model prog w) X.A.in1 (compareOp .Lt (.int n1 tn1) (.int n2 tn2)) Q E s)⟩)
   match i,h3,hx,hy with
   |0,_,hx,hy=>cases hx;cases hy;exact intE (by simp[hi]) prog w E Q hQ
 ·exact mk 0 (decide (i1<i2)) (by omega) (by unfold ltK;rw[if_neg hi]) (λprog w i x y h3 hx hy E Q hQ=>absurd h3 (Nat.not_lt_zero _)) (.inr ⟨_,_,rfl,rfl,intE (by simp[hi]),λprog w E Q hQ=>(PyProof.Rows.lt_int hQ:wpAny (model prog w) X.A.in1 (compareOp .Lt (.int i1 ti1) (.int i2 ti2)) Q E s)⟩)
end
end L2
namespace RW
open PySem PySem.Spec PyProof.Rows L2
def zlq(a b:Int)(ws vs:List Str):Bool:=ltK (-a,(ws.length:Int),ws) (-b,(vs.length:Int),vs)
theorem KeyAt.same{H H':Hp}{x:V}{k:Int×Int×List Str}(h:KeyAt H x k)(s:Same H H'):KeyAt H' x k:=let⟨a,p,e,f,g,o⟩:=h;⟨a,p,e,s _ _ f,s _ _ g,o⟩
theorem zjc{H:Hp}{v:V}{x:Str}{ws ms:List Str}(r:Rep H v (.tup [.tup ((x::ws).map D.str), .tup (ms.map D.str)])):∃p pw pm,v= .ref p/\H p=some (.tup [.ref pw, .ref pm])/\H pw=some (.tup ((x::ws).map V.str))/\H pm=some (.tup (ms.map V.str)):=by
 obtain⟨p,v0,v1,rfl,hp,r0,r1⟩:=r.of2
 obtain⟨pw,rfl,hpw⟩:=zcN r0
 obtain⟨pm,rfl,hpm⟩:=zcN r1
 exact⟨p,pw,pm,rfl,hp,hpw,hpm⟩
def zlj:Sp:=λvs H Q _=>∃(v:V) (pw pm:Addr) (x:Str) (ws ms:List Str) (g:Str) (hs:List Str) (ps:List (Str×Str)) (lks hds:List D) (j:Nat) (rs:List D) (i:Int),vs=[v, .ref pw, .ref pm]/\Rep H v (zaB g hs ps lks hds)/\TownOk g hs ps lks hds/\hs[j]?=some x/\lks[j]?=some (.tup rs)/\H pw=some (.tup ((x::ws).map V.str))/\H pm=some (.tup (ms.map V.str))/\(∀y∈x::ws,zh y=true)/\(∀y∈ms,zh y=true)/\ws.length<=90/\ms.length<=100/\zw (x::ws) ms rs= .int i/\∀(u:V) (H':Hp),KeyAt H' u (-i,((x::ws).length:Int),x::ws)->Same H H'->Q u H'
def ziz:Sp:=λvs H Q _=>∃(v u1 u2:V) (x:Str) (ws ms ws2 ms2:List Str) (g:Str) (hs:List Str) (ps:List (Str×Str)) (lks hds:List D) (j:Nat) (rs:List D) (a b:Int),vs=[v,u1,u2]/\Rep H v (zaB g hs ps lks hds)/\TownOk g hs ps lks hds/\hs[j]?=some x/\lks[j]?=some (.tup rs)/\Rep H u1 (.tup [.tup ((x::ws).map D.str), .tup (ms.map D.str)])/\Rep H u2 (.tup [.tup ((x::ws2).map D.str), .tup (ms2.map D.str)])/\(∀y∈x::ws,zh y=true)/\(∀y∈ms,zh y=true)/\ws.length<=90/\ms.length<=100/\(∀y∈x::ws2,zh y=true)/\(∀y∈ms2,zh y=true)/\ws2.length<=90/\ms2.length<=100/\zw (x::ws) ms rs= .int a/\zw (x::ws2) ms2 rs= .int b/\∀H',Same H H'->Q (.bl (zlq a b (x::ws) (x::ws2))) H'
end RW
namespace HT
open PySem PySem.Spec PyProof.Rows
section
variable{prog:Program}{w:World}{A:Around}{E:Value->Shared->Prop}{s:Shared}
end
end HT
namespace L2
open PySem PySem.Spec PyProof.Rows
section
variable{X:Cx}{e st:Expr}{te ts:TE}{p1 p2 p3 pos:Pos}{tk:Tok}
end
end L2
namespace RW
open PySem PySem.Spec PyProof.Rows L2
section
variable{te tf:TE}{ta:TA}{σ:L2.St}{H:Hp}{d:D}{ds es:List D}{K:PySem.W.Frag}
end
def zk2(ws ms:List Str)(rs:List D):Bool:=rs.any λr=>zcH ws ms none (zc9 r)
theorem zdR{ws ms:List Str}:∀{r1 r2:List D},zw ws ms (r1 ++r2)=if zk2 ws ms r1=true then zw ws ms r1 else zw ws ms r2
 |[],r2=>rfl
 |r::r1,r2=>by
  rw[List.cons_append,zw,zw]
  unfold zk2
  rw[List.any_cons]
  cases h:zcH ws ms none (zc9 r)with
  |true=>rfl
  |false=>
   have:=zdR (ws:=ws) (ms:=ms) (r1:=r1) (r2:=r2)
   unfold zk2 at this
   simp only[Bool.false_or,Bool.false_eq_true,if_false]
   exact this
theorem zgJ{ws ms:List Str}{r1 r2:List D}{r:D}(h:zcH ws ms none (zc9 r)=false):zw ws ms (r1 ++ [r]++r2)=zw ws ms (r1 ++r2):=by
 rw[List.append_assoc,zdR,zdR (r1:=r1) (r2:=r2)]
 have:zw ws ms ([r]++r2)=zw ws ms r2:=by
  show zw ws ms (r::r2)=_
  rw[zw,h,if_neg (by decide)]
 rw[this]
def zpx(o:Option (List Str))(f:List Str->Option (List Str)):Option (List Str):=match o with|none=>none|some t=>f t
theorem zck{ws:List Str}{to:Option Str}:∀{r1 r2:List D} {t:List Str},zv ws to (r1 ++r2) t=zpx (zv ws to r1 t) (zv ws to r2)
 |[],r2,t=>by rw[List.nil_append,zv];rfl
 |r::r1,r2,t=>by
  rw[List.cons_append,zv,zv]
  cases h:zcH ws t to (zc9 r)with
  |true=>
   rw[if_pos rfl,if_pos rfl]
   split
   ·exact zck
   ·rfl
  |false=>
   rw[if_neg (by decide),if_neg (by decide)]
   exact zck
theorem zgA{ws:List Str}{to:Option Str}{r1 r2:List D}{r:D}{t:List Str}(h:∀t,zcH ws t to (zc9 r)=false):zv ws to (r1 ++ [r]++r2) t=zv ws to (r1 ++r2) t:=by
 rw[List.append_assoc,zck,zck (r1:=r1) (r2:=r2)]
 have:zv ws to ([r]++r2)=zv ws to r2:=by
  funext u
  show zv ws to (r::r2) u=_
  rw[zv,h u,if_neg (by decide)]
 rw[this]
end RW
namespace L2
open PySem PySem.Spec PyProof.Rows
section
variable{X:Cx}{pos:Pos}{pins:List (Addr×Obj)}{σ:St}{H:Hp}{s:Shared}
theorem Inv.frz{d:Addr}{kvs:List (List Key×V)}{o:Obj}(I:Inv X pins σ H s)(e:H d=some (.dT kvs))(g:s.heap.get? d=some o):Inv X pins σ (upd H d (.frz o (.dT kvs))) s where
 ok:=I.ok
 os:=I.os
 bare:=I.bare
 base:={
  keep:=I.base.keep
  slot:=I.base.slot
  free:=λb o h1 h2 h3=>by
   have:=I.base.free b o h1 h2 h3
   rw[ze λz=>by rw[z,e] at this;cases this];exact this
  there:=I.base.there
  tups:=λb xs h=>by
   have:=I.base.tups b xs h
   rw[ze λz=>by rw[z,e] at this;cases this];exact this
  frzs:=λb o u h=>by
   have:=I.base.frzs b o u h
   rw[ze λz=>by rw[z,e] at this;cases this];exact this
  tbls:=λb ps h=>by
   obtain⟨more,this⟩:=I.base.tbls b ps h
   exact⟨more,by rw[ze λz=>by rw[z,e] at this;cases this];exact this⟩}
 loc:=I.loc
 cell:=I.cell
 free:=by
  have:=I.free
  rw[ze λz=>by rw[z,e] at this;cases this];exact this
 freeC:=λx c h=>by
  have:=I.freeC x c h
  rw[ze λz=>by rw[z,e] at this;cases this];exact this
 pin:=λp hp=>by
  obtain⟨h1,h2,h3⟩:=I.pin p hp
  exact⟨h1,by rw[ze λz=>by rw[z,e] at h2;cases h2];exact h2,h3⟩
 hok:=λa o' h=>by
  have st:∀{u:HO},ObjOk X.prog X.w H s.heap a u->ObjOk X.prog X.w (upd H d (.frz o (.dT kvs))) s.heap a u:=λx=>x.stay (λ_ _ _ q=>q) (λb q=>by rw[ze λz=>by rw[z,e] at q;cases q];exact q) (λb xs q=>by rw[ze λz=>by rw[z,e] at q;cases q];exact q)
  by_cases z:a=d
  ·subst z
   rw[zb] at h
   cases h
   exact⟨g,st (I.hok a _ e)⟩
  ·rw[ze z] at h
   exact st (I.hok a _ h)
 len:=I.len
def zo0(H:Hp)(bs:List Addr)(kvs:List (List Key×V)):Prop:=bs.length=kvs.length/\∀(i:Nat) (b:Addr) (kv:List Key×V),bs[i]?=some b->kvs[i]?=some kv->H b=some (.tup (kv.1.map kV))
end
section
variable{X:Cx}{K:PySem.W.Frag}
end
section
variable{X:Cx}{pos:Pos}
def zoa(tk tv:TE):TE:=λσ H Q=>∀p,H p=none->zid [(tk,tv)] σ (upd H p (.dT [])) λps H2=>H2 p=some (.dT [])/\∃(b:Addr) (k:List Key) (v:V),ps=[(.ref b,v)]/\H2 b=some (.tup (k.map kV))/\Q (.ref p) (upd H2 p (.dT [(k,v)]))
theorem zmV{k v:Expr}{tk tv:TE}(hu:X.A.units+1<cLine)(hk:QE X k tk)(hv:QE X v tv):QE X (.Dict [some k] [v] pos) (zoa tk tv):=⟨by
 intro pins s σ H Q I q
 have hn:=I.hok.fresh (Nat.le_refl s.heap.objs.size)
 have I1:=I.laid (a:=s.heap.objs.size) (o:= .dT []) (h':=s.heap.push {cls:= .type "dict",data:= .dict #[]}) (t':=s.toks) (λ_ _ q=>Heap.get?_push_of_some _ q) (Nat.le_refl _) (zho s.heap I.big)
 have h:=(zpm (pos:=pos) hk hv zo2).o pins {s with heap:=s.heap.push {cls:= .type "dict",data:= .dict #[]}} σ _ _ I1 (q _ hn)
 rw[arm_eval_Dict,zip_pairTrees [some k] [v] X.env pos rfl rfl,dictDisplay_pairs (pairTrees [some k] [v] X.env pos) (by intro z;have:=congrArg List.length z;rw[pairTrees_length [some k] [v] X.env pos rfl rfl] at this;exact nomatch this) (by rw[pairTrees_length [some k] [v] X.env pos rfl rfl];exact Nat.le_of_ble_eq_true rfl)]
 refine wpAny_bind (wpAny_standAt (wpAny_bind ?_))
 unfold subDict
 refine wpAny_bind (wpAny_alloc ?_)
 refine wpAny_bind (wpAny_holding ?_)
 rw[if_pos (by rw[pairTrees_length [some k] [v] X.env pos rfl rfl];exact Nat.le_of_ble_eq_true rfl)]
 refine wpAny_bind (thn h λws s2 ⟨ps,H2,I2,rel,e,b,kk,v2,ep,eb,q2⟩=>?_)
 subst ep
 cases rel with
 | @cons a' b' as bs hab t=>
   cases t
   obtain⟨b1,b2⟩:=b'
   obtain⟨r1,r2⟩:=hab
   cases(show b1=Value.ref b from r1)
   obtain⟨z,hd,xs,rl,dd⟩:=znx I2.hok e
   cases rl
   refine wpAny_holding (wpAny_bind ?_)
   rw[List.forIn_cons]
   refine wpAny_bind (wpAny_bind (wpAny_dictSet_heap (hsz:=Nat.zero_le _) (show(tupleKind (zah X.prog X.w)).room X.A from Nat.lt_of_le_of_lt (Nat.le_succ _) hu) (zfU I2.hok eb) dd λh' dd' hs=>wpAny_pure ?_))
   show wpAny _ _ (forIn [] _ _) _ _ _
   rw[List.forIn_nil]
   refine wpAny_pure (wpAny_pure (wpAny_pure (wpAny_pure ⟨.ref s.heap.objs.size,_,?_,rfl,q2⟩)))
   obtain⟨q,es,ep,hq,h2,h3,h4,_,h5⟩:=dd'
   refine zel I2 (by rw[e];exact True.intro) hs ⟨q,hq⟩ ⟨Nat.le_of_lt (zn (show 1<=1000 by omega)),hd,_, .cons ⟨rfl,?_,r2⟩ .nil,q,es,ep,hq,h2,h3,h4,h5⟩
   rw[ze (zaN eb e (λz=>nomatch z))]
   exact eb⟩
theorem zjN:CallR X (.builtin "len") (λxs H Q=>∃(d:Addr) (kvs:List (List Key×V)),xs=[.ref d]/\Rd H d (.dT kvs)/\Q (.int kvs.length) H):=by
 intro pins s σ H xs us Q I r h
 obtain⟨d,kvs,rfl,hd,q⟩:=h
 obtain⟨u,rfl,ru⟩:=zb6 r
 cases ru
 obtain⟨z,hs,xs,rel,dd⟩:=ziL I.hok hd
 have hl:kvs.length=xs.length:=Paired.length rel
 have z1:(kvs.length:Int)<2^63:=by rw[sizeLine_eq] at z;omega
 have ty:s.TypeIs (.ref d) "dict":=dd.typeIs
 obtain⟨o,es,ep,ho,hc,hdat,hes,_,_⟩:=dd
 have ez:es.size=kvs.length:=by rw[hl,←Array.length_toList,hes,List.length_map]
 have mt:MeetsIn X.prog X.w (Builtin.«dict.__len__» ⟨[.ref d],[]⟩) (λ_ R s=>(∃o,s.heap.get? d=some o/\o.data= .dict es ep)/\R (.ok (.ret (.int kvs.length s.toks))) {s with toks:=s.toks+1}):=
  .of_wp λA R s ⟨⟨o,ho,hdat⟩,h⟩=>by
   show wpAny _ _ (dictSize d>>=_) _ _ s
   unfold dictSize
   refine wpAny_bind (wpAny_bind (wpAny_dictEntries ho hdat (wpAny_pure ?_)))
   show wpAny _ _ (Builtin.Dict.pendingCount d>>=_) _ _ s
   refine wpAny_bind (wpAny_pendingCount_other hs ?_)
   refine wpAny_ret_mkInt ?_
   rw[Nat.add_zero,ez];exact h
 refine Calls.call_function_entry kind_len plain_len entry_len (args_len1 _) ?_
 unfold Builtin.«len»
 refine wpAny_bind (m:=oneArg "len" _) (wpAny_pure ?_)
 refine wpAny_bind (m:=callSpecial? (.ref d) (Str.ofString "__len__")) (wpAny_callSpecial?_slot (name:=Str.ofString "__len__") ty F.slot_dict_len (call_meetsIn F.slot_dict_len ty F.entry_dict_len (F.args_dict_len_1 _) mt ⟨⟨o,ho,hdat⟩,?_⟩))
 show wpAny _ _ _ _ _ {s with toks:=s.toks+1}
 refine wpAny_bind (wpAny_holding (wpAny_pure ?_))
 refine wpAny_bind (wpAny_letGo ?_)
 show wpAny _ _ (if((kvs.length:Nat):Int)<0 then _ else _) _ _ _
 rw[if_neg (by omega)]
 show wpAny _ _ (if((kvs.length:Nat):Int)≥2^63 then _ else _) _ _ _
 rw[if_neg (by omega)]
 exact wpAny_bind (wpAny_mkInt (wpAny_pure ⟨_,rfl, .int _,H,I.tok _,⟨_,rfl⟩,q⟩))
end
end L2
namespace HT
open PySem PySem.Spec PyProof.Rows
end HT
namespace L2
open PySem PySem.Spec PyProof.Rows
section
variable{X:Cx}{e i o:Expr}{te td ty:TE}{p1 p2 p3 pos:Pos}{tk:Tok}
theorem zca(hu:X.A.units+1<cLine)(ho:QE X o td)(hi:QE X i ty)(hs:zn1 i:=by exact λ_ _=>rfl):QE X (.Subscript o i pos) (znz td ty):=⟨zni hu ho.o hi.o hs⟩
end
end L2
namespace RW
open PySem PySem.Spec PyProof.Rows L2
theorem zlA:∀{ps qs rs:List Str},ltL ps qs=true->ltL qs rs=true->ltL ps rs=true
 |[],[],_,h,_=>by rw[ltL] at h;cases h
 |_::_,[],_,h,_=>by rw[ltL] at h;cases h
 |_,_::_,[],_,h=>by rw[ltL] at h;cases h
 |[],_::_,_::_,_,_=>by rw[ltL]
 |p::ps,q::qs,r::rs,h1,h2=>by
  rw[ltL] at h1 h2⊢
  by_cases z:p=q
  ·subst z
   rw[if_pos rfl] at h1
   by_cases y:p=r
   ·subst y
    rw[if_pos rfl] at h2⊢
    exact zlA h1 h2
   ·rw[if_neg y] at h2⊢
    exact h2
  ·rw[if_neg z] at h1
   by_cases y:q=r
   ·subst y
    rw[if_neg z];exact h1
   ·rw[if_neg y] at h2
    have h3:=zeD h1 h2
    rw[if_neg (zhK h3)]
    exact h3
theorem zdK(k:Int×Int×List Str):ltK k k=false:=by
 unfold ltK
 rw[if_pos rfl,if_pos rfl];exact zem _
theorem zhX{k1 k2 k3:Int×Int×List Str}(h1:ltK k1 k2=true)(h2:ltK k2 k3=true):ltK k1 k3=true:=by
 unfold ltK at *
 by_cases z:k1.1=k2.1
 ·rw[if_pos z] at h1
  by_cases z2:k2.1=k3.1
  ·rw[if_pos z2] at h2
   rw[if_pos (z.trans z2)]
   by_cases y:k1.2.1=k2.2.1
   ·rw[if_pos y] at h1
    by_cases y2:k2.2.1=k3.2.1
    ·rw[if_pos y2] at h2
     rw[if_pos (y.trans y2)]
     exact zlA h1 h2
    ·rw[if_neg y2] at h2
     rw[if_neg (by rw[y];exact y2)]
     have:=of_decide_eq_true h2
     exact decide_eq_true (by omega)
   ·rw[if_neg y] at h1
    have h1:=of_decide_eq_true h1
    by_cases y2:k2.2.1=k3.2.1
    ·rw[if_neg (by omega)]
     exact decide_eq_true (by omega)
    ·rw[if_neg y2] at h2
     have h2:=of_decide_eq_true h2
     rw[if_neg (by omega)]
     exact decide_eq_true (by omega)
  ·rw[if_neg z2] at h2
   have h2:=of_decide_eq_true h2
   rw[if_neg (by omega)]
   exact decide_eq_true (by omega)
 ·rw[if_neg z] at h1
  have h1:=of_decide_eq_true h1
  by_cases z2:k2.1=k3.1
  ·rw[if_neg (by omega)]
   exact decide_eq_true (by omega)
  ·rw[if_neg z2] at h2
   have h2:=of_decide_eq_true h2
   rw[if_neg (by omega)]
   exact decide_eq_true (by omega)
theorem ziB{k1 k2:Int×Int×List Str}(h:ltK k1 k2=true):ltK k2 k1=false:=by
 cases e:ltK k2 k1 with
 |false=>rfl
 |true=>have:=zhX h e;rw[zdK] at this;cases this
abbrev WM:=List Str×List Str
def wI(rs:List D)(e:WM):Int:=match zw e.1 e.2 rs with| .int a=>a|_=>0
def kE(rs:List D)(e:WM):Int×Int×List Str:=(-(wI rs e),(e.1.length:Int),e.1)
mutual
theorem zlU:∀d:D,(pyD d).eqv (pyD d)=true
 | .non=>by rw[pyD,PyData.eqv]
 | .bl b=>by rw[pyD,PyData.eqv];simp
 | .int i=>by rw[pyD,PyData.eqv];simp
 | .str x=>by rw[pyD,PyData.eqv];simp
 | .tup ds=>by rw[pyD,PyData.eqv];exact ziy ds
 | .oth=>by rw[pyD,PyData.eqv]
theorem ziy:∀ds:List D,PyData.eqvAll (pyL ds) (pyL ds)=true
 |[]=>by rw[pyL,PyData.eqvAll]
 |d::ds=>by rw[pyL,PyData.eqvAll,zlU d,ziy ds];rfl
end
theorem zbJ{n:Nat}:∀{xs:List PyData},(∀x∈xs,x.depth<=n)->PyData.depthAll xs<=n
 |[],_=>by rw[PyData.depthAll];exact Nat.zero_le _
 |x::xs,h=>by
  rw[PyData.depthAll]
  have h1:=h x List.mem_cons_self
  have h2:=zbJ (n:=n) λy hy=>h y (List.mem_cons_of_mem _ hy)
  omega
end RW
namespace HT
open PySem PySem.Spec PyProof.Rows L2
section
variable{prog:Program}{w:World}{A:Around}{E:Value->Shared->Prop}{s:Shared}
theorem zip_itemD{z TI TO i1 i2 l1 l2:Addr}{n1 n2 k:Nat}{P1 P2:Nat->Value->Prop}{S1 S2:Nat->Heap->Prop}{a b:Value}{Q:Value->Shared->Prop}(D:ZipApart z TI TO i1 i2 l1 l2)
 (D1:Draws prog w A i1 [i1,l1] n1 P1 S1) (D2:Draws prog w A i2 [i2,l2] n2 P2 S2)
 (hz:IsZip s.heap z TI TO .none) (hTI:IsPair s.heap TI (.ref i1) (.ref i2)) (hTO:IsPair s.heap TO a b) (h1:S1 k s.heap) (h2:S2 k s.heap) (k1:k<n1) (k2:k<n2)
 (hQ:∀x y h' tk,P1 k x->P2 k y->IsZip h' z TI TO (rawInt s.heap.objs.size)->IsPair h' TO x y->S1 (k+1) h'->S2 (k+1) h'->IsPair h' s.heap.objs.size x y->h'.objs.size=s.heap.objs.size+1->
   (∀c o,c≠z->c≠TO->c≠i1->c≠i2->s.heap.get? c=some o->h'.get? c=some o)->Q (.ref s.heap.objs.size) {s with heap:=h',toks:=tk}):
 wpAny (model prog w) A (Builtin.«zip.__next__» ⟨[.ref z],[]⟩) (λfin s'=>∃v,fin= .done (.ret v)/\Q v s') E s:=by
 show wpAny _ _ (field (.ref z) 2>>=_) _ _ _
 refine wpAny_bind (wpAny_field hz rfl (x:= .bool false) rfl ?_)
 show wpAny _ _ (field (.ref z) 3>>=_) _ _ _
 refine wpAny_bind (wpAny_field hz rfl (x:= .ref TI) rfl ?_)
 refine wpAny_bind (wpAny_seqItems hTI rfl ?_)
 show wpAny _ _ (Builtin.SmallTypes.ownedTupleIsFree (.ref z)>>=_) _ _ _
 refine wpAny_bind ?_
 unfold Builtin.SmallTypes.ownedTupleIsFree
 refine wpAny_bind (wpAny_field hz rfl (x:= .none) rfl (wpAny_pure ?_))
 simp only[if_true]
 refine wpAny_bind (wpAny_rule ?_)
 refine wpAny_bind (wpAny_field hz rfl (x:= .ref TO) rfl ?_)
 refine wpAny_bind (wpAny_setField_rec hz (by simp) λh₁ hz₁ hs₁=>?_)
 replace hz₁:IsZip h₁ z TI TO .ellipsis:=hz₁
 refine wpAny_bind ?_
 simp only[List.zipIdx_cons,List.zipIdx_nil,List.forIn_cons,List.forIn_nil]
 refine wpAny_bind (wpAny_bind (wpAny_onRaise ?_))
 show wpAny _ _ (Builtin.SmallTypes.nextOf (.ref i1)>>=_) _ _ _
 have f1:∀{i:Nat} {h h':Heap},S1 i h->(∀c o,c≠z->c≠TO->c≠i2->h.get? c=some o->h'.get? c=some o)->S1 i h':=λst kk=>D1.frame _ _ _ st λc hc o e=>by
  rcases List.mem_cons.mp hc with rfl|hc
  ·exact kk c o D.i1z D.TOi1.symm D.i12 e
  ·have:c=l1:=by simpa using hc
   subst this
   exact kk c o D.l1z D.l1TO D.l1i2 e
 have f2:∀{i:Nat} {h h':Heap},S2 i h->(∀c o,c≠z->c≠TO->c≠i1->h.get? c=some o->h'.get? c=some o)->S2 i h':=λst kk=>D2.frame _ _ _ st λc hc o e=>by
  rcases List.mem_cons.mp hc with rfl|hc
  ·exact kk c o D.i2z D.TOi2.symm D.i12.symm e
  ·have:c=l2:=by simpa using hc
   subst this
   exact kk c o D.l2z D.l2TO D.l2i1 e
 refine wpAny_bind (D1.item k _ _ _ k1 (f1 h1 λc o c1 _ _ e=>hs₁.extBut _ _ c1 e) λx h₂ tk2 hx h1₂ hs₂=>wpAny_pure ?_)
 have hTO₂:IsPair h₂ TO a b:=hs₂.extBut _ _ D.TOi1 (hs₁.extBut _ _ D.TOz hTO)
 refine wpAny_bind (wpAny_seqItems hTO₂ rfl ?_)
 refine wpAny_bind (wpAny_updateSeq_pair hTO₂ λh₃ hTO₃ hs₃=>?_)
 replace hTO₃:IsPair h₃ TO x b:=hTO₃
 refine wpAny_bind (wpAny_letGo (wpAny_pure ?_))
 refine wpAny_bind (wpAny_bind (wpAny_onRaise ?_))
 show wpAny _ _ (Builtin.SmallTypes.nextOf (.ref i2)>>=_) _ _ _
 refine wpAny_bind (D2.item k _ _ _ k2 (f2 h2 λc o c1 c2 c3 e=>hs₃.extBut _ _ c2 (hs₂.extBut _ _ c3 (hs₁.extBut _ _ c1 e))) λy h₄ tk4 hy h2₄ hs₄=>wpAny_pure ?_)
 have hTO₄:IsPair h₄ TO x b:=hs₄.extBut _ _ D.TOi2 hTO₃
 refine wpAny_bind (wpAny_seqItems hTO₄ rfl ?_)
 refine wpAny_bind (wpAny_updateSeq_pair hTO₄ λh₅ hTO₅ hs₅=>?_)
 replace hTO₅:IsPair h₅ TO x y:=hTO₅
 refine wpAny_bind (wpAny_letGo (wpAny_pure (wpAny_pure ?_)))
 refine wpAny_bind (wpAny_seqItems hTO₅ rfl ?_)
 refine wpAny_bind (wpAny_newTuple ?_)
 have hsz:h₅.objs.size=s.heap.objs.size:=by rw[hs₅.1,hs₄.1,hs₃.1,hs₂.1,hs₁.1]
 have hz₅:IsZip h₅ z TI TO .ellipsis:=hs₅.extBut _ _ D.TOz.symm (hs₄.extBut _ _ D.i2z.symm (hs₃.extBut _ _ D.TOz.symm (hs₂.extBut _ _ D.i1z.symm hz₁)))
 have hk₅:∀c o,c≠z->c≠TO->c≠i1->c≠i2->s.heap.get? c=some o->h₅.get? c=some o:=λc o c1 c2 c3 c4 e=>
  hs₅.extBut _ _ c2 (hs₄.extBut _ _ c4 (hs₃.extBut _ _ c2 (hs₂.extBut _ _ c3 (hs₁.extBut _ _ c1 e))))
 have h1₅:S1 (k+1) h₅:=f1 h1₂ λc o c1 c2 c3 e=>hs₅.extBut _ _ c2 (hs₄.extBut _ _ c3 (hs₃.extBut _ _ c2 e))
 have h2₅:S2 (k+1) h₅:=f2 h2₄ λc o c1 c2 c3 e=>hs₅.extBut _ _ c2 e
 have hzlt:z<h₅.objs.size:=Heap.lt_size hz₅
 have hTOlt:TO<h₅.objs.size:=Heap.lt_size hTO₅
 show wpAny _ _ (Builtin.SmallTypes.ownedTupleHandOut (.ref z) (.ref h₅.objs.size)>>=_) _ _ _
 refine wpAny_bind ?_
 unfold Builtin.SmallTypes.ownedTupleHandOut
 have hz₆:IsZip (h₅.push {cls:= .type "tuple",data:= .seq #[x,y]}) z TI TO .ellipsis:=Heap.get?_push_of_some _ hz₅
 refine wpAny_bind (wpAny_setField_rec hz₆ (by simp) λh₇ hz₇ hs₇=>?_)
 replace hz₇:IsZip h₇ z TI TO (rawInt h₅.objs.size):=hz₇
 refine wpAny_setField_rec hz₇ (by simp) λh₈ hz₈ hs₈=>?_
 replace hz₈:IsZip h₈ z TI TO (rawInt h₅.objs.size):=hz₈
 have up:∀c o,c≠z->h₅.get? c=some o->h₈.get? c=some o:=λc o c1 e=>hs₈.extBut _ _ c1 (hs₇.extBut _ _ c1 (Heap.get?_push_of_some _ e))
 have hT₈:IsPair h₈ h₅.objs.size x y:=hs₈.extBut _ _ (Nat.ne_of_gt hzlt) (hs₇.extBut _ _ (Nat.ne_of_gt hzlt) (Heap.get?_push_size _ rfl))
 have hz8:h₈.objs.size=h₅.objs.size+1:=by rw[hs₈.1,hs₇.1,Heap.size_push]
 rw[hsz] at hz₈ hT₈ hz8
 refine wpAny_pure ⟨_,rfl,?_⟩
 show Q (.ref h₅.objs.size) _
 rw[hsz]
 exact hQ x y h₈ _ hx hy hz₈ (up _ _ D.TOz hTO₅) (f1 h1₅ λc o c1 _ _ e=>up c o c1 e) (f2 h2₅ λc o c1 _ _ e=>up c o c1 e) hT₈ hz8 λc o c1 c2 c3 c4 e=>up c o c1 (hk₅ c o c1 c2 c3 c4 e)
theorem zip_endD{z TI TO i1 i2 l1 l2:Addr}{n1 n2 k:Nat}{P1 P2:Nat->Value->Prop}{S1 S2:Nat->Heap->Prop}{a b:Value}{Q:Fin->Shared->Prop}(D:ZipApart z TI TO i1 i2 l1 l2)
 (D1:Draws prog w A i1 [i1,l1] n1 P1 S1) (D2:Draws prog w A i2 [i2,l2] n2 P2 S2)
 (hz:IsZip s.heap z TI TO .none) (hTI:IsPair s.heap TI (.ref i1) (.ref i2)) (hTO:IsPair s.heap TO a b) (h1:S1 k s.heap) (h2:S2 k s.heap) (hend:k=n1\/(k<n1/\k=n2))
 (hE:∀h' tk e,(∀c o,c≠z->c≠TO->c≠i1->c≠i2->s.heap.get? c=some o->h'.get? c=some o)->(∃o,h'.get? e=some o/\o.cls= .type "StopIteration")->E (.ref e) {s with heap:=h',toks:=tk}):
 wpAny (model prog w) A (Builtin.«zip.__next__» ⟨[.ref z],[]⟩) Q E s:=by
 show wpAny _ _ (field (.ref z) 2>>=_) _ _ _
 refine wpAny_bind (wpAny_field hz rfl (x:= .bool false) rfl ?_)
 show wpAny _ _ (field (.ref z) 3>>=_) _ _ _
 refine wpAny_bind (wpAny_field hz rfl (x:= .ref TI) rfl ?_)
 refine wpAny_bind (wpAny_seqItems hTI rfl ?_)
 show wpAny _ _ (Builtin.SmallTypes.ownedTupleIsFree (.ref z)>>=_) _ _ _
 refine wpAny_bind ?_
 unfold Builtin.SmallTypes.ownedTupleIsFree
 refine wpAny_bind (wpAny_field hz rfl (x:= .none) rfl (wpAny_pure ?_))
 simp only[if_true]
 refine wpAny_bind (wpAny_rule ?_)
 refine wpAny_bind (wpAny_field hz rfl (x:= .ref TO) rfl ?_)
 refine wpAny_bind (wpAny_setField_rec hz (by simp) λh₁ hz₁ hs₁=>?_)
 replace hz₁:IsZip h₁ z TI TO .ellipsis:=hz₁
 refine wpAny_bind ?_
 simp only[List.zipIdx_cons,List.zipIdx_nil,List.forIn_cons,List.forIn_nil]
 refine wpAny_bind (wpAny_bind (wpAny_onRaise ?_))
 show wpAny _ _ (Builtin.SmallTypes.nextOf (.ref i1)>>=_) _ _ _
 have f1:∀{i:Nat} {h h':Heap},S1 i h->(∀c o,c≠z->c≠TO->c≠i2->h.get? c=some o->h'.get? c=some o)->S1 i h':=λst kk=>D1.frame _ _ _ st λc hc o e=>by
  rcases List.mem_cons.mp hc with rfl|hc
  ·exact kk c o D.i1z D.TOi1.symm D.i12 e
  ·have:c=l1:=by simpa using hc
   subst this
   exact kk c o D.l1z D.l1TO D.l1i2 e
 have f2:∀{i:Nat} {h h':Heap},S2 i h->(∀c o,c≠z->c≠TO->c≠i1->h.get? c=some o->h'.get? c=some o)->S2 i h':=λst kk=>D2.frame _ _ _ st λc hc o e=>by
  rcases List.mem_cons.mp hc with rfl|hc
  ·exact kk c o D.i2z D.TOi2.symm D.i12.symm e
  ·have:c=l2:=by simpa using hc
   subst this
   exact kk c o D.l2z D.l2TO D.l2i1 e
 rcases hend with rfl|⟨k1,rfl⟩
 ·refine wpAny_bind (D1.done _ _ _ (f1 h1 λc o c1 _ _ e=>hs₁.extBut _ _ c1 e) λh₂ e hs₂ he=>?_)
  obtain⟨oe,hoe,hce⟩:=he
  have hz₂:IsZip h₂ z TI TO .ellipsis:=hs₂ _ _ D.i1z.symm hz₁
  have hez:e≠z:=λx=>by subst x;rw[hz₂] at hoe;cases hoe;simp at hce
  refine wpAny_setField_rec hz₂ (by simp) λh₃ _ hs₃=>hE h₃ s.toks e (λc o c1 _ c3 _ x=>hs₃.extBut _ _ c1 (hs₂ _ _ c3 (hs₁.extBut _ _ c1 x))) ⟨oe,hs₃.extBut _ _ hez hoe,hce⟩
 ·refine wpAny_bind (D1.item k _ _ _ k1 (f1 h1 λc o c1 _ _ e=>hs₁.extBut _ _ c1 e) λx h₂ tk2 hx h1₂ hs₂=>wpAny_pure ?_)
  have hTO₂:IsPair h₂ TO a b:=hs₂.extBut _ _ D.TOi1 (hs₁.extBut _ _ D.TOz hTO)
  refine wpAny_bind (wpAny_seqItems hTO₂ rfl ?_)
  refine wpAny_bind (wpAny_updateSeq_pair hTO₂ λh₃ hTO₃ hs₃=>?_)
  refine wpAny_bind (wpAny_letGo (wpAny_pure ?_))
  refine wpAny_bind (wpAny_bind (wpAny_onRaise ?_))
  show wpAny _ _ (Builtin.SmallTypes.nextOf (.ref i2)>>=_) _ _ _
  refine wpAny_bind (D2.done _ _ _ (f2 h2 λc o c1 c2 c3 e=>hs₃.extBut _ _ c2 (hs₂.extBut _ _ c3 (hs₁.extBut _ _ c1 e))) λh₄ e hs₄ he=>?_)
  obtain⟨oe,hoe,hce⟩:=he
  have hz₄:IsZip h₄ z TI TO .ellipsis:=hs₄ _ _ D.i2z.symm (hs₃.extBut _ _ D.TOz.symm (hs₂.extBut _ _ D.i1z.symm hz₁))
  have hez:e≠z:=λx=>by subst x;rw[hz₄] at hoe;cases hoe;simp at hce
  refine wpAny_setField_rec hz₄ (by simp) λh₅ _ hs₅=>hE h₅ _ e (λc o c1 c2 c3 c4 x=>hs₅.extBut _ _ c1 (hs₄ _ _ c4 (hs₃.extBut _ _ c2 (hs₂.extBut _ _ c3 (hs₁.extBut _ _ c1 x))))) ⟨oe,hs₅.extBut _ _ hez hoe,hce⟩
def SqH(t:Bool)(h:Heap)(a:Addr)(items:Array Value):Prop:=if t then h.IsTuple a items else h.IsList a items
def ItH(t:Bool)(h:Heap)(it a:Addr)(i:Nat):Prop:=if t then h.IsTupleIter it a i else h.IsListIter it a i
def itO(t:Bool)(a:Addr):Obj:={cls:= .type (if t then"tuple_iterator"else "list_iterator"),data:= .fields #[.ref a, .int 0 0]}
theorem ItH.at{t:Bool}{h h':Heap}{it a:Addr}{i:Nat}(x:ItH t h it a i)(e:∀o,h.get? it=some o->h'.get? it=some o):ItH t h' it a i:=by
 cases t<;>(obtain⟨o,ho,r⟩:=x;exact⟨o,e _ ho,r⟩)
theorem ItH.obj{t:Bool}{h:Heap}{it a:Addr}{i:Nat}(x:ItH t h it a i):∃o,h.get? it=some o/\(∀v,o.data≠ .cell v)/\o.cls≠ .type "tuple"/\o.cls≠ .type "list":=by
 cases t
 ·obtain ⟨o,ho,c,d⟩:=x
  exact⟨o,ho,(λv z=>by rw[d] at z;cases z),(λz=>by rw[c] at z;injection z with z;exact absurd z (by decide)),(λz=>by rw[c] at z;injection z with z;exact absurd z (by decide))⟩
 ·obtain ⟨o,ho,c,d⟩:=x
  exact⟨o,ho,(λv z=>by rw[d] at z;cases z),(λz=>by rw[c] at z;injection z with z;exact absurd z (by decide)),(λz=>by rw[c] at z;injection z with z;exact absurd z (by decide))⟩
theorem drawsH(t:Bool)(hh:A.handled=none)(it l:Addr)(hne:l≠it)(items:Array Value):Draws prog w A it [it,l] items.size (λi v=>items[i]?=some v) (λi h=>ItH t h it l i/\SqH t h l items):=by
 cases t
 ·exact Draws.list hh it l hne items
 ·exact zgN hh it l hne items
abbrev zlX(h:Heap)(t1:Bool)(l1:Addr):Heap:=h.push (itO t1 l1)
abbrev zlT(h:Heap)(t1 t2:Bool)(l1 l2:Addr):Heap:=(zlX h t1 l1).push (itO t2 l2)
abbrev zm7(h:Heap)(t1 t2:Bool)(l1 l2:Addr):Heap:=(zlT h t1 t2 l1 l2).push {cls:= .type "tuple",data:= .seq #[.ref h.objs.size, .ref (zlX h t1 l1).objs.size]}
abbrev zmz(h:Heap)(t1 t2:Bool)(l1 l2:Addr):Heap:=(zm7 h t1 t2 l1 l2).push {cls:= .type "tuple",data:= .seq #[.none, .none]}
abbrev zh6(h:Heap)(t1 t2:Bool)(l1 l2:Addr):Heap:=(zmz h t1 t2 l1 l2).push {cls:= .type "zip",data:= .fields #[.none, .bool false, .bool false, .ref (zlT h t1 t2 l1 l2).objs.size, .ref (zm7 h t1 t2 l1 l2).objs.size]}
theorem zla(t1 t2:Bool)(l1 l2:Addr)(xs ys:Array Value):
 Meets (Builtin.«zip.__new__» ⟨[.type "zip", .ref l1, .ref l2],[]⟩) (λ_ R s=>SqH t1 s.heap l1 xs/\SqH t2 s.heap l2 ys/\
  R (.ok (.ret (.ref (zmz s.heap t1 t2 l1 l2).objs.size))) {s with heap:=zh6 s.heap t1 t2 l1 l2}):=
 .of_wp λprog w A R s h=>by
  obtain⟨hp,g,d,tk,os⟩:=s;obtain⟨hl1,hl2,h⟩:=h
  have hsub:=sub_zip
  cases t1<;>cases t2
  ·have hL1:Heap.IsList (Shared.heap ⟨hp,g,d,tk,os⟩) l1 xs:=hl1
   have hL2:Heap.IsList (Shared.heap ⟨hp.push {cls:= .type "list_iterator",data:= .fields #[.ref l1, .int 0 0]},g,d,tk,os⟩) l2 ys:=Heap.IsList.push hl2 _
   wp_walk using wpAny_pyIter_list hL1,wpAny_pyIter_list hL2
   exact⟨_,rfl,h⟩
  ·have hL1:Heap.IsList (Shared.heap ⟨hp,g,d,tk,os⟩) l1 xs:=hl1
   have hL2:Heap.IsTuple (Shared.heap ⟨hp.push {cls:= .type "list_iterator",data:= .fields #[.ref l1, .int 0 0]},g,d,tk,os⟩) l2 ys:=(show Heap.IsTuple _ l2 ys from hl2).at λo e=>Heap.get?_push_of_some _ e
   wp_walk using wpAny_pyIter_list hL1,wpAny_pyIter_tuple hL2
   exact⟨_,rfl,h⟩
  ·have hL1:Heap.IsTuple (Shared.heap ⟨hp,g,d,tk,os⟩) l1 xs:=hl1
   have hL2:Heap.IsList (Shared.heap ⟨hp.push {cls:= .type "tuple_iterator",data:= .fields #[.ref l1, .int 0 0]},g,d,tk,os⟩) l2 ys:=Heap.IsList.push hl2 _
   wp_walk using wpAny_pyIter_tuple hL1,wpAny_pyIter_list hL2
   exact⟨_,rfl,h⟩
  ·have hL1:Heap.IsTuple (Shared.heap ⟨hp,g,d,tk,os⟩) l1 xs:=hl1
   have hL2:Heap.IsTuple (Shared.heap ⟨hp.push {cls:= .type "tuple_iterator",data:= .fields #[.ref l1, .int 0 0]},g,d,tk,os⟩) l2 ys:=(show Heap.IsTuple _ l2 ys from hl2).at λo e=>Heap.get?_push_of_some _ e
   wp_walk using wpAny_pyIter_tuple hL1,wpAny_pyIter_tuple hL2
   exact⟨_,rfl,h⟩
theorem ItH.new{t:Bool}{h:Heap}{it a:Addr}(e:h.get? it=some (itO t a)):ItH t h it a 0:=by
 cases t
 ·exact ⟨_,e,rfl,rfl⟩
 ·exact ⟨_,e,rfl,rfl⟩
theorem call_zp{t1 t2:Bool}{l1 l2:Addr}{xs ys:Array Value}{Q:Value->Shared->Prop}(hl1:SqH t1 s.heap l1 xs)(hl2:SqH t2 s.heap l2 ys)
 (h:∀h',IsZip h' (s.heap.objs.size+4) (s.heap.objs.size+2) (s.heap.objs.size+3) .none->IsPair h' (s.heap.objs.size+2) (.ref s.heap.objs.size) (.ref (s.heap.objs.size+1))->
   IsPair h' (s.heap.objs.size+3) .none .none->ItH t1 h' s.heap.objs.size l1 0->ItH t2 h' (s.heap.objs.size+1) l2 0->h'.objs.size=s.heap.objs.size+5->
   (∀c o,s.heap.get? c=some o->h'.get? c=some o)->Q (.ref (s.heap.objs.size+4)) {s with heap:=h'}):
 wpAny (model prog w) A (call (.type "zip") [.ref l1, .ref l2]) Q E s:=by
 refine callType_new PySem.F.called_zip (by decide) (PySem.F.typeCall_zip_2 _ _) (PySem.F.newCall_zip_2 _ _) (λobj=>PySem.F.args_object_init_3 obj _ _) PySem.F.entry_zip_new
  (zla t1 t2 l1 l2 xs ys) ⟨hl1,hl2,?_⟩
 have z1:(zlX s.heap t1 l1).objs.size=s.heap.objs.size+1:=Heap.size_push ..
 have z2:(zlT s.heap t1 t2 l1 l2).objs.size=s.heap.objs.size+2:=by rw[Heap.size_push,z1]
 have z3:(zm7 s.heap t1 t2 l1 l2).objs.size=s.heap.objs.size+3:=by rw[Heap.size_push,z2]
 have z4:(zmz s.heap t1 t2 l1 l2).objs.size=s.heap.objs.size+4:=by rw[Heap.size_push,z3]
 have z5:(zh6 s.heap t1 t2 l1 l2).objs.size=s.heap.objs.size+5:=by rw[Heap.size_push,z4]
 have g5:(zh6 s.heap t1 t2 l1 l2).get? (zmz s.heap t1 t2 l1 l2).objs.size=some _:=Heap.get?_push_size _ rfl
 have g4:(zh6 s.heap t1 t2 l1 l2).get? (zm7 s.heap t1 t2 l1 l2).objs.size=some _:=Heap.get?_push_of_some _ (Heap.get?_push_size _ rfl)
 have g3:(zh6 s.heap t1 t2 l1 l2).get? (zlT s.heap t1 t2 l1 l2).objs.size=some _:=Heap.get?_push_of_some _ (Heap.get?_push_of_some _ (Heap.get?_push_size _ rfl))
 have g2:(zh6 s.heap t1 t2 l1 l2).get? (zlX s.heap t1 l1).objs.size=some _:=Heap.get?_push_of_some _ (Heap.get?_push_of_some _ (Heap.get?_push_of_some _ (Heap.get?_push_size _ rfl)))
 have g1:(zh6 s.heap t1 t2 l1 l2).get? s.heap.objs.size=some _:=Heap.get?_push_of_some _ (Heap.get?_push_of_some _ (Heap.get?_push_of_some _ (Heap.get?_push_of_some _ (Heap.get?_push_size _ rfl))))
 show _/\_
 rw[z2,z3,z4] at g5
 rw[z1,z2] at g3
 rw[z3] at g4
 rw[z1] at g2
 rw[z4]
 exact⟨⟨_,g5,rfl⟩,h _ g5 g3 g4 (ItH.new g1) (ItH.new g2) z5 λc o x=>
  Heap.get?_push_of_some _ (Heap.get?_push_of_some _ (Heap.get?_push_of_some _ (Heap.get?_push_of_some _ (Heap.get?_push_of_some _ x))))⟩
end
end HT
namespace L2
open PySem PySem.Spec PyProof.Rows
section
variable{X:Cx}{K:PySem.W.Frag}
def SqZ(t:Bool)(H:Hp)(a:Addr)(xs:List V):Prop:=if t then H a=some (.tup xs)else H a=some (.lst xs)
theorem SqZ.some{t:Bool}{H:Hp}{a:Addr}{xs:List V}(h:SqZ t H a xs):∃o,H a=some o:=by cases t<;>exact ⟨_,h⟩
theorem SqZ.inj{t:Bool}{H:Hp}{a:Addr}{xs ys:List V}(h:SqZ t H a xs)(g:SqZ t H a ys):xs=ys:=by
 cases t
 ·have e:=(show H a=Option.some (.lst xs)from h).symm.trans (show H a=Option.some (.lst ys)from g);cases e;rfl
 ·have e:=(show H a=Option.some (.tup xs)from h).symm.trans (show H a=Option.some (.tup ys)from g);cases e;rfl
theorem zag{pins:List (Addr×Obj)}{σ:St}{H:Hp}{s:Shared}{t:Bool}{a:Addr}{xs:List V}(I:Inv X pins σ H s)(h:SqZ t H a xs):∃its:List Value,Vals xs its/\HT.SqH t s.heap a its.toArray:=by
 cases t
 ·obtain ⟨its,rv,p,_⟩:=I.list (SqL.of (show H a=Option.some (.lst xs)from h));exact⟨its,rv,p.isList⟩
 ·obtain ⟨its,rv,p,_⟩:=I.tuple (show SqT X.K H a xs from .inl (.inl (show H a=Option.some (.tup xs)from h)));exact⟨its,rv,p⟩
def Itz(t1 t2:Bool)(a b:Addr)(n:Nat):It:=
 ⟨λi H=>∃xs ys x y,SqZ t1 H a xs/\SqZ t2 H b ys/\min xs.length ys.length=n/\xs[i]?=some x/\ys[i]?=some y,
  λi H x H'=>∃T xs ys u v,SqZ t1 H a xs/\SqZ t2 H b ys/\x= .ref T/\H T=none/\xs[i]?=some u/\ys[i]?=some v/\H'=upd H T (.tup [u,v]),
  λi H=>∃xs ys,SqZ t1 H a xs/\SqZ t2 H b ys/\min xs.length ys.length=n/\n<=i⟩
structure ZpA(z TI TO i1 i2:Addr):Prop where
 TIz:TI≠z
 TOz:TO≠z
 i1z:i1≠z
 i2z:i2≠z
 TITO:TI≠TO
 TIi1:TI≠i1
 TIi2:TI≠i2
 TOi1:TO≠i1
 TOi2:TO≠i2
 i12:i1≠i2
theorem ZpA.apart{z TI TO i1 i2 l1 l2:Addr}(Z:ZpA z TI TO i1 i2){H:Hp}(hf:∀b∈ [z,TI,TO,i1,i2],H b=none)(h1:∃o,H l1=some o)(h2:∃o,H l2=some o):ZipApart z TI TO i1 i2 l1 l2:=by
 have n1:∀b∈ [z,TI,TO,i1,i2],l1≠b:=λb hb e=>by obtain⟨o,h⟩:=h1;rw[e,hf b hb] at h;cases h
 have n2:∀b∈ [z,TI,TO,i1,i2],l2≠b:=λb hb e=>by obtain⟨o,h⟩:=h2;rw[e,hf b hb] at h;cases h
 exact⟨Z.TIz,Z.TOz,Z.i1z,Z.i2z,Z.TITO,Z.TIi1,Z.TIi2,Z.TOi1,Z.TOi2,Z.i12,n1 _ (by simp),n1 _ (by simp),n1 _ (by simp),n1 _ (by simp),n2 _ (by simp),n2 _ (by simp),n2 _ (by simp),n2 _ (by simp)⟩
theorem Inv.stepF{pins:List (Addr×Obj)}{σ:St}{H:Hp}{s:Shared}{fp:List Addr}{h2:Heap}{tk:Nat}(I:Inv X pins σ H s)(hf:∀b∈fp,zc5 X pins H b)(kk:∀b o,b∉fp->s.heap.get? b=some o->h2.get? b=some o):
 Inv X pins σ H {s with heap:=h2,toks:=tk}:=by
 refine Inv.step (s:=s) (h':=h2) (t':=tk) (g':=s.gens) (d':=s.drawn) (ch:=fp) I (λb hb=>?_) (λb o _ _ hc e' _=>kk b o hc e') (λb o _ _ hc e' _=>⟨o.slots,kk b o hc e'⟩) (λ_ _ _ _ z=>z) (λb o hc e'=>⟨o,kk b o hc e'⟩) (λ_ _ z=>z) (λ_ _ _ z=>z) (λb ps z=>⟨#[],by rw[z];simp⟩) (λm hm=>?_) (λb u' z=>?_) I.bare
 ·obtain ⟨f0,f1,f2,f3,f4,f5⟩:=hf b hb
  exact⟨f3,f1,f4,f5⟩
 ·obtain ⟨o,es,ep,ho,r⟩:=hm
  exact⟨o,es,ep,kk _ o (λz=>(hf _ z).2.1 rfl) ho,r⟩
 ·refine (I.hok b u' z).stay (λc v hc q=>kk c v (λy=>?_) q) (λc q=>q) λc xs q=>q
  have:∃u2,H c=some u2:=by
   rcases hc with rfl|hc
   ·exact ⟨_,z⟩
   ·exact ⟨_,hc⟩
  obtain⟨u2,hu2⟩:=this
  rw[(hf c y).1] at hu2;cases hu2
theorem zkE{P:Program}{w:World}{K:PySem.W.Frag}{elts:List Expr}{k:Nat}{pos:Pos}{t1 t2:Bool}(a b z TI TO i1 i2:Addr)(n:Nat)(Z:ZpA z TI TO i1 i2):
 Turn P w K (.Tuple elts k pos) (Itz t1 t2 a b n) [z,TI,TO,i1,i2] z (λi h=>i<=n/\IsZip h z TI TO .none/\IsPair h TI (.ref i1) (.ref i2)/\(∃x y,IsPair h TO x y)/\HT.ItH t1 h i1 a i/\HT.ItH t2 h i2 b i) where
 mem:=by simp
 obj:=λi h st c hc=>by
  obtain⟨_,hz,hTI,⟨x,y,hTO⟩,h1,h2⟩:=st
  simp only[List.mem_cons,List.not_mem_nil,or_false] at hc
  rcases hc with rfl|rfl|rfl|rfl|rfl
  ·exact ⟨_,hz,λv e=>by cases e⟩
  ·exact ⟨_,hTI,λv e=>by cases e⟩
  ·exact ⟨_,hTO,λv e=>by cases e⟩
  ·obtain ⟨o,ho,d,_⟩:=h1.obj;exact⟨o,ho,d⟩
  ·obtain ⟨o,ho,d,_⟩:=h2.obj;exact⟨o,ho,d⟩
 keep:=λi h h' st kk=>by
  obtain⟨l,hz,hTI,⟨x,y,hTO⟩,h1,h2⟩:=st
  exact⟨l,kk _ (by simp) _ hz,kk _ (by simp) _ hTI,⟨x,y,kk _ (by simp) _ hTO⟩,h1.at λo e=>kk _ (by simp) o e,h2.at λo e=>kk _ (by simp) o e⟩
 item:=by
  intro X hP hw hK hc i pins s σ H E I hf st hg
  subst hP hw hK
  obtain⟨xs,ys,x,y,hq1,hq2,hn,hx,hy⟩:=hg
  obtain⟨it1,rv1,p1⟩:=zag I hq1
  obtain⟨it2,rv2,p2⟩:=zag I hq2
  obtain⟨u1,hu1,ru1⟩:=rv1.get hx
  obtain⟨u2,hu2,ru2⟩:=rv2.get hy
  have hf0:∀c∈ [z,TI,TO,i1,i2],H c=none:=λc hc=>(hf c hc).1
  have D:=Z.apart hf0 hq1.some hq2.some
  obtain⟨hin,hz,hTI,⟨x0,y0,hTO⟩,h1,h2⟩:=st
  have L1:i<it1.toArray.size:=by
   rcases Nat.lt_or_ge i it1.length with q|q
   ·simpa using q
   ·rw[List.getElem?_eq_none q] at hu1;cases hu1
  have L2':i<it2.toArray.size:=by
   rcases Nat.lt_or_ge i it2.length with q|q
   ·simpa using q
   ·rw[List.getElem?_eq_none q] at hu2;cases hu2
  have hT:s.TypeIs (.ref z) "zip":=⟨_,hz,rfl⟩
  unfold pyNext
  refine wpAny_bind (wpAny_attempt (wpAny_callSpecial?_slot (name:=Str.ofString "__next__") hT PySem.F.slot_zip_next (wpAny_call_entry PySem.F.slot_zip_next hT PySem.F.entry_zip_next
   (HT.zip_itemD D (HT.drawsH (A:=X.A.in1) t1 (I.ok.hd hc) i1 a D.l1i1 it1.toArray) (HT.drawsH (A:=X.A.in1) t2 (I.ok.hd hc) i2 b D.l2i2 it2.toArray) hz hTI hTO ⟨h1,p1⟩ ⟨h2,p2⟩ L1 L2' λx' y' h' tk hx' hy' az ao a1 a2 aT asz hk=>?_) (PySem.F.args_zip_next_1 _))))
  refine wpAny_pure ?_
  obtain⟨T,hTT⟩:∃T,T=s.heap.objs.size:=⟨_,rfl⟩
  rw[←hTT] at az aT⊢
  have e1:x'=u1:=by
   have:it1.toArray[i]?=some u1:=by simpa using hu1
   rw[this] at hx';exact(Option.some.inj hx').symm
  have e2:y'=u2:=by
   have:it2.toArray[i]?=some u2:=by simpa using hu2
   rw[this] at hy';exact(Option.some.inj hy').symm
  subst e1 e2
  refine⟨_,rfl,wpAny_letOwnedTupleGo_zip az λh2' hz2 hs2=>?_⟩
  have ltT:∀{c o},s.heap.get? c=some o->c≠T:=λq e=>by
   have:=Heap.lt_size q
   rw[e,hTT] at this
   exact absurd this (Nat.lt_irrefl _)
  have nTz:T≠z:=Ne.symm (ltT hz)
  have hT2:h2'.get? T=some {cls:= .type "tuple",data:= .seq #[x',y']}:=hs2.extBut _ _ nTz aT
  have fT:H T=none:=I.hok.fresh (Nat.le_of_eq hTT.symm)
  have kk:∀c o,c∉ [z,TI,TO,i1,i2]->s.heap.get? c=some o->h2'.get? c=some o:=λc o hc e=>hs2.extBut _ _ (λq=>hc (by simp[q])) (hk c o (λq=>hc (by simp[q])) (λq=>hc (by simp[q])) (λq=>hc (by simp[q])) (λq=>hc (by simp[q])) e)
  have nT:T∉ [z,TI,TO,i1,i2]:=λq=>by
   simp only[List.mem_cons,List.not_mem_nil,or_false] at q
   rcases q with q|q|q|q|q
   ·exact nTz q
   ·exact ltT hTI q.symm
   ·exact ltT hTO q.symm
   ·obtain ⟨o,ho,_⟩:=h1.obj;exact ltT ho q.symm
   ·obtain ⟨o,ho,_⟩:=h2.obj;exact ltT ho q.symm
  have neT:∀{c u'},H c=some u'->c≠T:=λq e=>by rw[e,fT] at q;cases q
  refine⟨.ref T,upd H T (.tup [x,y]),?_,rfl,⟨T,xs,ys,x,y,hq1,hq2,rfl,fT,hx,hy,rfl⟩,⟨?_,hz2,hs2.extBut _ _ Z.TIz (hk _ _ Z.TIz Z.TITO Z.TIi1 Z.TIi2 hTI),⟨_,_,hs2.extBut _ _ Z.TOz ao⟩,a1.1.at λo e=>hs2.extBut _ _ Z.i1z e,a2.1.at λo e=>hs2.extBut _ _ Z.i2z e⟩,λc hc=>?_⟩
  ·show Inv X pins σ _ {s with heap:=h2',gens:=s.gens,drawn:=s.drawn,toks:=tk}
   refine Inv.step (s:=s) (h':=h2') (t':=tk) (g':=s.gens) (d':=s.drawn) (ch:=[z,TI,TO,i1,i2]) I (λc hc=>?_) (λc o _ _ hc e' _=>kk c o hc e') (λc o _ _ hc e' _=>⟨o.slots,kk c o hc e'⟩) (λc o _ e' q=>by rw[ze (ltT e')];exact q) (λc o hc e'=>⟨o,kk c o hc e'⟩) (λc xs q=>by rw[ze (neT q)];exact q) (λc o u' q=>by rw[ze (neT q)];exact q) (λc ps q=>⟨#[],by rw[ze (neT q),q];simp⟩) (λm hm=>?_) (λc u' q=>?_) I.bare
   ·obtain ⟨f0,f1,f2,f3,f4,f5⟩:=hf c hc
    exact⟨f3,f1,f4,f5⟩
   ·obtain ⟨o,es,ep,ho,r⟩:=hm
    exact⟨o,es,ep,kk _ o (λq=>(hf _ q).2.1 rfl) ho,r⟩
   ·by_cases hb:c=T
    ·subst hb
     rw[zb] at q
     cases q
     exact⟨few rfl,[x',y'], .cons ru1 (.cons ru2 .nil),⟨_,hT2,rfl,_,rfl⟩,λo q=>by rw[hT2] at q;cases q;rfl⟩
    ·rw[ze hb] at q
     refine(I.hok c u' q).stay (λd v hd q'=>kk d v (λy'=>?_) q') (λd q'=>by rw[ze (neT q')];exact q') λd xs q'=>by rw[ze (neT q')];exact q'
     have:∃u2,H d=some u2:=by
      rcases hd with rfl|hd
      ·exact ⟨_,q⟩
      ·exact ⟨_,hd⟩
     obtain⟨u2,hu2⟩:=this
     rw[hf0 d y'] at hu2;cases hu2
  ·have m1:i<xs.length:=by
    rcases Nat.lt_or_ge i xs.length with q|q
    ·exact q
    ·rw[List.getElem?_eq_none q] at hx;cases hx
   have m2:i<ys.length:=by
    rcases Nat.lt_or_ge i ys.length with q|q
    ·exact q
    ·rw[List.getElem?_eq_none q] at hy;cases hy
   rw[←hn]
   exact Nat.lt_min.mpr ⟨m1,m2⟩
  ·have:c≠T:=λq=>nT (by rw[←q];exact hc)
   rw[ze this]
   exact(hf c hc).1
 done:=by
   intro X hP hw hK hc i pins s σ H E I hf st hg
   subst hP hw hK
   obtain⟨xs,ys,hq1,hq2,hn,hle⟩:=hg
   obtain⟨it1,rv1,p1⟩:=zag I hq1
   obtain⟨it2,rv2,p2⟩:=zag I hq2
   have hf0:∀c∈ [z,TI,TO,i1,i2],H c=none:=λc hc=>(hf c hc).1
   have D:=Z.apart hf0 hq1.some hq2.some
   obtain⟨hin,hz,hTI,⟨x0,y0,hTO⟩,h1,h2⟩:=st
   have ei:i=min xs.length ys.length:=by omega
   have l1:=rv1.length
   have l2:=rv2.length
   have hend:i=it1.toArray.size\/(i<it1.toArray.size/\i=it2.toArray.size):=by
    simp only[List.size_toArray]
    rcases Nat.lt_or_ge ys.length xs.length with q|q
    ·exact .inr ⟨by omega,by omega⟩
    ·exact .inl (by omega)
   have hT:s.TypeIs (.ref z) "zip":=⟨_,hz,rfl⟩
   unfold pyNext
   refine wpAny_bind (wpAny_attempt (wpAny_callSpecial?_slot (name:=Str.ofString "__next__") hT PySem.F.slot_zip_next (wpAny_call_entry PySem.F.slot_zip_next hT PySem.F.entry_zip_next
    (HT.zip_endD D (HT.drawsH (A:=X.A.in1) t1 (I.ok.hd hc) i1 a D.l1i1 it1.toArray) (HT.drawsH (A:=X.A.in1) t2 (I.ok.hd hc) i2 b D.l2i2 it2.toArray) hz hTI hTO ⟨h1,p1⟩ ⟨h2,p2⟩ hend λh' tk e hk he=>?_) (PySem.F.args_zip_next_1 _))))
   obtain⟨o,ho,hce⟩:=he
   refine wpAny_bind (wpAny_isInstance (T:="StopIteration") (b:=true) ⟨o,ho,hce⟩ isSubtype_stop ?_)
   refine wpAny_pure ⟨rfl,I.stepF (fp:=[z,TI,TO,i1,i2]) hf λc o hc e=>hk c o (λq=>hc (by simp[q])) (λq=>hc (by simp[q])) (λq=>hc (by simp[q])) (λq=>hc (by simp[q])) e⟩
 self:=λA i s Q E st h=>wpAny_pyIter_zip st.2.1 h
def zpK(ta:TA):TI:=λσ H R=>ta σ H λvs H1=>∃a b t1 t2 xs ys,vs=[.ref a, .ref b]/\SqZ t1 H1 a xs/\SqZ t2 H1 b ys/\R (Itz t1 t2 a b (min xs.length ys.length)) H1
theorem ze1:bootBuiltins "zip"=some (.type "zip"):=by kernel_rfl
theorem zpj{elts:List Expr}{k:Nat}{pos2:Pos}{a b:Expr}{ta:TA}{p pos:Pos}(hm:X.mg "zip"=none)(ha:QA X [a,b] ta)(hg:Gl X "zip":=by rfl)(hs:starEach [a,b] X.env=[(false,eval a X.env),(false,eval b X.env)]:=by rfl)(hs2:starEach [b] X.env=[(false,eval b X.env)]:=by rfl):QI X (.Tuple elts k pos2) (.Call (.Name "zip" p) [a,b] [] pos) (zpK ta):=⟨by
 intro pins s σ H R I h
 refine Call_ (zcx I hg hm ze1 (PyProof.Rows.callWith_type1 (thn (ha.o pos pins s σ H _ I h) λus s1 ⟨vs,H1,I1,r1,q1⟩=>?_) (by rw[hs,hs2]) (by rw[hs2];rfl)))
 obtain⟨l1,l2,t1,t2,xs,ys,rfl,hq1,hq2,q⟩:=q1
 obtain⟨u,v,rfl,ru,rv⟩:=zfs r1
 cases ru
 cases rv
 obtain⟨it1,rv1,p1⟩:=zag I1 hq1
 obtain⟨it2,rv2,p2⟩:=zag I1 hq2
 refine HT.call_zp p1 p2 λh' hz hTI hTO hi1 hi2 hsz kk=>?_
 have Z:ZpA (s1.heap.objs.size+4) (s1.heap.objs.size+2) (s1.heap.objs.size+3) s1.heap.objs.size (s1.heap.objs.size+1):=by constructor<;>(intro e;have e':(_:Nat)=_:=e;omega)
 refine wpAny_pyIter_zip hz ?_
 refine⟨s1.heap.objs.size+4,[s1.heap.objs.size+4,s1.heap.objs.size+2,s1.heap.objs.size+3,s1.heap.objs.size,s1.heap.objs.size+1],_,_,H1,rfl,I1.kept (t':=s1.toks) kk,zkE l1 l2 _ _ _ _ _ (min xs.length ys.length) Z,⟨Nat.zero_le _,hz,hTI,⟨_,_,hTO⟩,hi1,hi2⟩,λc hc=>?_,q⟩
 have hb':s1.heap.objs.size<=c:=by
  simp only[List.mem_cons,List.not_mem_nil,or_false] at hc
  rcases hc with e|e|e|e|e<;>(have e':(c:Nat)=_:=e;rw[e'];first|exact Nat.le_refl _|exact Nat.le_add_right _ _)
 exact I1.fpOk hb' (I1.hok.fresh hb')⟩
theorem zfY{J:It}{n:Nat}{g:TG}{tb:TS}{D:Ends}{σ:St}{H:Hp}(Pv:Nat->St->Hp->Prop)(h0:Pv 0 σ H)(hgo:∀i σ H,i<n->Pv i σ H->J.go i H)(hst:∀σ H,Pv n σ H->J.stop n H)
 (hs:∀i x σ H H1,i<n->Pv i σ H->J.yld i H x H1->g x σ H1 λσ2 H2=>tb {D with nx:=Pv (i+1),ct:=Pv (i+1),bk:=D.nx} σ2 H2) (hd:∀σ H,Pv n σ H->D.nx σ H):zkw g tb D σ J H:=by
 refine⟨λi m σ H=>m=n -i/\i<=n/\Pv i σ H,⟨n,by simp,Nat.zero_le _,h0⟩,?_⟩
 rintro i m σ H ⟨rfl,hi,p⟩
 by_cases hlt:i<n
 ·exact .inr ⟨hgo i σ H hlt p,Pv (i+1),λσ' H' q=>⟨n -(i+1),by omega,rfl,hlt,q⟩,λx H' y=>hs i x σ H H' hlt p y⟩
 ·have e:i=n:=by omega
  subst e
  exact .inl ⟨hst σ H p,hd σ H p⟩
theorem zlh{J:It}{n:Nat}{g:TG}{tc:TT}{te:TE}{src:List (Option Nat)}{σ:St}{H1:Hp}{Q:VK}(Pv:Addr->Nat->List V->St->Hp->Prop)
 (h0:∀l,H1 l=none->Pv l 0 [] (zdk src σ) (upd H1 l (.lst []))) (hgo:∀l i ys σ H,H1 l=none->i<n->Pv l i ys σ H->J.go i H) (hst:∀l ys σ H,H1 l=none->Pv l n ys σ H->J.stop n H)
 (hs:∀l i x ys σ H H2,H1 l=none->i<n->Pv l i ys σ H->H l=some (.lst ys)->J.yld i H x H2->g x σ H2 λσ2 H3=>tc σ2 H3 λb H4=>
   if b=true then te σ2 H4 λy H5=>H5 l=some (.lst ys)/\ys.length<sizeLine/\Pv l (i+1) (ys ++ [y]) σ2 (upd H5 l (.lst (ys ++ [y])))else H4 l=some (.lst ys)/\Pv l (i+1) ys σ2 H4)
 (hd:∀l ys σ H,H1 l=none->Pv l n ys σ H->H l=some (.lst ys)->Q (.ref l) H):zcu g tc te src σ Q J H1:=by
 intro l hl
 refine⟨λi m ys σ H=>m=n -i/\i<=n/\Pv l i ys σ H,⟨n,by simp,Nat.zero_le _,h0 l hl⟩,?_⟩
 rintro i m ys σ' H' ⟨rfl,hi,p⟩ hl'
 by_cases hlt:i<n
 ·exact .inr ⟨hgo l i ys σ' H' hl hlt p,Pv l (i+1),λzs σ2 H2 q=>⟨n -(i+1),by omega,rfl,hlt,q⟩,λx H2 y=>hs l i x ys σ' H' H2 hl hlt p hl' y⟩
 ·have e:i=n:=by omega
  subst e
  exact .inl ⟨hst l ys σ' H' hl p,hd l ys σ' H' hl p hl'⟩
end
section
variable{prog:Program}{w:World}{A:Around}{R:Result->Shared->Prop}{s:Shared}{elt t1 i1 t2 i2:Expr}{f1 f2:List Expr}{scope:Scope}{pos:Pos}{it acc:Value}{env:Env}
end
section
variable{X:Cx}{elt tg iter tg2 iter2:Expr}{ifs ifs2:List Expr}{scope osc:Scope}{pos:Pos}{N':List Str}{src:List (Option Nat)}{wi wi2:TI}{g g2:TG}{tc tc2:TT}{te:TE}
end
def zpz(v:V)(y:Str):Prop:=v= .str y\/∃i:Int,v= .int i/\y=(toString i:String)/\i.natAbs.log2<1920
section
variable{X:Cx}{e:Expr}{te:TE}{pos:Pos}{es:List Expr}{ts:List TE}
structure QP1(X:Cx)(e:Expr)(te:TE):Prop where
 o:∀(pins:List (Addr×Obj)) (s:Shared) (σ:St) (H:Hp) (Q:Str->Hp->Prop),Inv X pins σ H s->(te σ H λv H1=>∃y,zpz v y/\y.length<=sizeLine/\Q y H1)->
  wpAny (model X.prog X.w) X.A (eval e X.env) (λu s1=>∃y t H1,u= .str y t/\Inv X pins σ H1 s1/\Q y H1) X.xe s
inductive QJ(X:Cx):List Expr->List TE->Prop
 |nil:QJ X [] []
 |cons {e:Expr} {t:TE} {es:List Expr} {ts:List TE} (h:QP1 X e t) (r:QJ X es ts):QJ X (e::es) (t::ts)
end
section
variable{prog:Program}{w:World}{A:Around}{E:Value->Shared->Prop}{s:Shared}
end
section
variable{X:Cx}
end
end L2
namespace RW
open PySem PySem.Spec PyProof.Rows L2
theorem zcv(x y:Str):(x ++y).length=x.length+y.length:=Array.size_append
theorem zpR{sep x y:Str}{r:List Str}:Str.join sep (x::y::r)=x ++sep ++Str.join sep (y::r):=rfl
theorem zgI{sep:Str}{c m:Nat}(hs:sep.length<=m):∀{xs:List Str},(∀x∈xs,x.length<=c)->(Str.join sep xs).length<=xs.length*(c+m)
 |[],_=>by show(Str.empty).length<=_;exact Nat.zero_le _
 |[x],h=>by show x.length<=1*(c+m);have:=h x (by simp);omega
 |x::y::r,h=>by
  rw[zpR,zcv,zcv]
  have h1:=h x (by simp)
  have h2:=zgI hs (xs:=y::r) λz hz=>h z (List.mem_cons_of_mem _ hz)
  rw[List.length_cons,Nat.add_mul,Nat.one_mul]
  omega
end RW
namespace L2
open PySem PySem.Spec PyProof.Rows
section
variable{X:Cx}{K:PySem.W.Frag}
end
end L2
namespace RW
open PySem PySem.Spec PyProof.Rows L2
end RW
namespace HT
open PySem PySem.Spec PyProof.Rows L2
section
variable{prog:Program}{w:World}{A:Around}{E:Value->Shared->Prop}{s:Shared}
abbrev zdS(h:Heap)(z TI TO T:Addr)(b:Bool):Prop:=
 h.get? z=some {cls:= .type "zip",dict:=none,data:= .fields #[rawInt T, .bool b, .bool false, .ref TI, .ref TO],slots:= #[]}
theorem zb4{a:Addr}{Q:Option Obj->Shared->Prop}(h:Q (s.heap.get? a) s):wpAny (model prog w) A (loadIfAlive a) Q E s:=λΓ p _=>by
 unfold loadIfAlive
 rw[Sem.wp_loadIfAlive]
 exact wpAny_pure (M:=model prog w) (A:=A) (E:=E) h Γ p ‹_›
theorem znY{z TI TO T:Addr}{b:Bool}{Q:Bool->Shared->Prop}(hz:zdS s.heap z TI TO T b)(hT:∃o,s.heap.get? T=some o)
 (h:∀h',zdS h' z TI TO T true->Heap.SameBut z s.heap h'->Q false {s with heap:=h'}):wpAny (model prog w) A (Builtin.SmallTypes.ownedTupleIsFree (.ref z)) Q E s:=by
 unfold Builtin.SmallTypes.ownedTupleIsFree
 refine wpAny_bind (wpAny_field hz rfl (x:=rawInt T) rfl ?_)
 obtain⟨o,ho⟩:=hT
 show wpAny _ _ (loadIfAlive (Int.toNat (T:Int))>>=_) _ _ _
 refine wpAny_bind (zb4 ?_)
 rw[Int.toNat_natCast,ho]
 show wpAny _ _ (field (.ref z) 1>>=_) _ _ _
 refine wpAny_bind (wpAny_field hz rfl (x:= .bool b) rfl ?_)
 cases b with
 |true=>exact wpAny_pure (h _ hz ⟨rfl,λ_ _=>rfl⟩)
 |false=>exact wpAny_bind (wpAny_setField_rec hz (by simp) λh' hz' hs'=>wpAny_pure (h h' hz' hs'))
theorem zjn{z TI TO T i1 i2 l1 l2:Addr}{n1 n2 k:Nat}{fb:Bool}{P1 P2:Nat->Value->Prop}{S1 S2:Nat->Heap->Prop}{Q:Value->Shared->Prop}(D:ZipApart z TI TO i1 i2 l1 l2)
 (D1:Draws prog w A i1 [i1,l1] n1 P1 S1) (D2:Draws prog w A i2 [i2,l2] n2 P2 S2)
 (hz:zdS s.heap z TI TO T fb) (hT:∃o,s.heap.get? T=some o) (hTI:IsPair s.heap TI (.ref i1) (.ref i2)) (h1:S1 k s.heap) (h2:S2 k s.heap) (k1:k<n1) (k2:k<n2)
 (hQ:∀x y h' tk,P1 k x->P2 k y->zdS h' z TI TO T true->S1 (k+1) h'->S2 (k+1) h'->IsPair h' s.heap.objs.size x y->h'.objs.size=s.heap.objs.size+1->
   (∀c o,c≠z->c≠i1->c≠i2->s.heap.get? c=some o->h'.get? c=some o)->Q (.ref s.heap.objs.size) {s with heap:=h',toks:=tk}):
 wpAny (model prog w) A (Builtin.«zip.__next__» ⟨[.ref z],[]⟩) (λfin s'=>∃v,fin= .done (.ret v)/\Q v s') E s:=by
 show wpAny _ _ (field (.ref z) 2>>=_) _ _ _
 refine wpAny_bind (wpAny_field hz rfl (x:= .bool false) rfl ?_)
 show wpAny _ _ (field (.ref z) 3>>=_) _ _ _
 refine wpAny_bind (wpAny_field hz rfl (x:= .ref TI) rfl ?_)
 refine wpAny_bind (wpAny_seqItems hTI rfl ?_)
 show wpAny _ _ (Builtin.SmallTypes.ownedTupleIsFree (.ref z)>>=_) _ _ _
 refine wpAny_bind (znY hz hT λh₁ hz₁ hs₁=>?_)
 have f1:∀{i:Nat} {h h':Heap},S1 i h->(∀c o,c≠z->c≠i2->h.get? c=some o->h'.get? c=some o)->S1 i h':=λst kk=>D1.frame _ _ _ st λc hc o e=>by
  rcases List.mem_cons.mp hc with rfl|hc
  ·exact kk c o D.i1z D.i12 e
  ·have:c=l1:=by simpa using hc
   subst this
   exact kk c o D.l1z D.l1i2 e
 have f2:∀{i:Nat} {h h':Heap},S2 i h->(∀c o,c≠z->c≠i1->h.get? c=some o->h'.get? c=some o)->S2 i h':=λst kk=>D2.frame _ _ _ st λc hc o e=>by
  rcases List.mem_cons.mp hc with rfl|hc
  ·exact kk c o D.i2z D.i12.symm e
  ·have:c=l2:=by simpa using hc
   subst this
   exact kk c o D.l2z D.l2i1 e
 simp only[Bool.false_eq_true,if_false]
 rw[←Array.forIn_toList]
 show wpAny _ _ (forIn [Value.ref i1,Value.ref i2] _ _>>=_) _ _ _
 simp only[List.forIn_cons,List.forIn_nil]
 refine wpAny_bind (wpAny_bind (wpAny_bind (wpAny_holding ?_)))
 show wpAny _ _ (Builtin.SmallTypes.nextOf (.ref i1)>>=_) _ _ _
 refine wpAny_bind (D1.item k _ _ _ k1 (f1 h1 λc o c1 _ e=>hs₁.extBut _ _ c1 e) λx h₂ tk2 hx h1₂ hs₂=>wpAny_pure (wpAny_pure ?_))
 refine wpAny_bind (wpAny_bind (wpAny_holding ?_))
 show wpAny _ _ (Builtin.SmallTypes.nextOf (.ref i2)>>=_) _ _ _
 refine wpAny_bind (D2.item k _ _ _ k2 (f2 h2 λc o c1 c3 e=>hs₂.extBut _ _ c3 (hs₁.extBut _ _ c1 e)) λy h₃ tk3 hy h2₃ hs₃=>wpAny_pure (wpAny_pure (wpAny_pure ?_)))
 refine wpAny_bind (wpAny_newTuple ?_ (Nat.le_of_ble_eq_true rfl))
 have hsz:h₃.objs.size=s.heap.objs.size:=by rw[hs₃.1,hs₂.1,hs₁.1]
 have hk₃:∀c o,c≠z->c≠i1->c≠i2->s.heap.get? c=some o->h₃.get? c=some o:=λc o c1 c3 c4 e=>hs₃.extBut _ _ c4 (hs₂.extBut _ _ c3 (hs₁.extBut _ _ c1 e))
 have hz₃:zdS h₃ z TI TO T true:=hs₃.extBut _ _ D.i2z.symm (hs₂.extBut _ _ D.i1z.symm hz₁)
 refine wpAny_pure ⟨_,rfl,?_⟩
 show Q (.ref h₃.objs.size) _
 have hp:∀c o,h₃.get? c=some o->(h₃.push {cls:= .type "tuple",data:= .seq #[x,y]}).get? c=some o:=λc o e=>Heap.get?_push_of_some _ e
 have g:IsPair (h₃.push {cls:= .type "tuple",data:= .seq #[x,y]}) h₃.objs.size x y:=Heap.get?_push_size _ rfl
 have z3:(h₃.push {cls:= .type "tuple",data:= .seq #[x,y]}).objs.size=h₃.objs.size+1:=Heap.size_push ..
 rw[hsz] at g z3⊢
 exact hQ x y _ _ hx hy (hp _ _ hz₃) (f1 h1₂ λc o _ c3 e=>hp _ _ (hs₃.extBut _ _ c3 e)) (f2 h2₃ λc o _ _ e=>hp _ _ e) g z3 λc o c1 c3 c4 e=>hp _ _ (hk₃ c o c1 c3 c4 e)
end
section
variable{prog:Program}{w:World}{A:Around}{E:Value->Shared->Prop}{s:Shared}{K:Type}[DecidableEq K]{knd:KeyKind prog w K}
structure DzAt(h:Heap)(knd:KeyKind prog w K)(t1 t2:Bool)(z TI i1 i2 l1 l2 d:Addr)(xs ys:Array Value)(kvs:List (K×Value))(i:Nat):Prop where
 TI:IsPair h TI (.ref i1) (.ref i2)
 p1:ItH t1 h i1 l1 i
 p2:ItH t2 h i2 l2 i
 q1:SqH t1 h l1 xs
 q2:SqH t2 h l2 ys
 dd:h.DictOf knd d kvs
structure DzD(z TI TO i1 i2 l1 l2 d:Addr):Prop extends ZipApart z TI TO i1 i2 l1 l2 where
 dz:d≠z
 dTI:d≠TI
 di1:d≠i1
 di2:d≠i2
 dl1:d≠l1
 dl2:d≠l2
 TIl1:True
end
end HT
namespace L2
open PySem PySem.Spec PyProof.Rows
section
variable{X:Cx}
def zaP(hs:List Str)(ys:List V):List (Key×V):=(hs.zip ys).map λp=>(Sum.inr p.1,p.2)
theorem ziX{hs:List Str}{ys:List V}{j:Nat}{x:Str}{v:V}(nd:hs.Nodup)(h1:hs[j]?=some x)(h2:ys[j]?=some v):zaI (zaP hs ys) (Sum.inr x)=some v:=by
 induction hs generalizing ys j with
 |nil=>simp at h1
 |cons h hs ih=>
  rw[List.nodup_cons] at nd
  cases ys with
  |nil=>simp at h2
  |cons y ys=>
   cases j with
   |zero=>
    simp at h1 h2
    subst h1 h2
    simp[zaP,zaI]
   |succ j=>
    simp only[List.getElem?_cons_succ] at h1 h2
    have hne:¬h=x:=λe=>nd.1 (e▸List.mem_of_getElem? h1)
    have:=ih nd.2 h1 h2
    simpa[zaP,zaI,List.find?_cons,hne] using this
end
end L2
namespace RW
open PySem PySem.Spec PyProof.Rows L2
section
variable{X:Cx}
end
def Shw(c k:Nat)(d:D):Prop:=okD d=true/\(pyD d).showable=true/\(pyD d).depth<=k/\(pyD d).shown.length<=c
theorem zme{x:Str}(h:PyData.strOk x=true)(hl:x.length<=8):Shw 82 1 (.str x):=by
 refine⟨by rw[okD];exact h,by rw[pyD,PyData.showable],by rw[pyD,PyData.depth];omega,?_⟩
 rw[pyD,PyData.shown]
 have hc:∀c∈x.cps.toList,c<16^8:=λc hc=>by
  unfold PyData.strOk at h
  rw[Array.all_eq_true'] at h
  have:=of_decide_eq_true (h c (Array.mem_toList_iff.mp hc))
  omega
 have:=StrLaws.reprText_len x hc
 omega
theorem showableAll_of:∀{xs:List PyData},(∀x∈xs,x.showable=true)->PyData.showableAll xs=true
 |[],_=>by rw[PyData.showableAll]
 |x::xs,h=>by rw[PyData.showableAll,h x List.mem_cons_self,showableAll_of λy hy=>h y (List.mem_cons_of_mem _ hy)];rfl
theorem zcq:∀{xs:List PyData},PyData.shownAll xs=xs.map PyData.shown
 |[]=>by rw[PyData.shownAll];rfl
 |x::xs=>by rw[PyData.shownAll,List.map_cons,zcq]
theorem znc{ds:List D}{c k:Nat}(m:Nat)(hm:ds.length<=m)(h:∀d∈ds,Shw c k d):Shw (m*(c+2)+3) (k+1) (.tup ds):=by
 refine⟨by rw[okD];exact zku λd hd=>(h d hd).1,?_,?_,?_⟩
 ·rw[pyD,PyData.showable,zdq]
  exact showableAll_of λx hx=>by obtain⟨d,hd,rfl⟩:=List.mem_map.mp hx;exact(h d hd).2.1
 ·rw[pyD,PyData.depth,zdq]
  have:=zbJ (n:=k) (xs:=ds.map pyD) λx hx=>by obtain⟨d,hd,rfl⟩:=List.mem_map.mp hx;exact(h d hd).2.2.1
  omega
 ·rw[pyD,PyData.shown,zdq,zcq,List.map_map]
  have hc:∀x∈ds.map (PyData.shown∘pyD),x.length<=c:=λx hx=>by obtain⟨d,hd,rfl⟩:=List.mem_map.mp hx;exact(h d hd).2.2.2
  have jl:=zgI (sep:=", ") (m:=2) (by decide) hc
  rw[List.length_map] at jl
  unfold tupleText
  rw[zcv,zcv]
  have l1:("(":Str).length=1:=rfl
  have l2:(Str.ofString (if(ds.map (PyData.shown∘pyD)).length==1 then",)"else ")")).length<=2:=by split<;>decide
  have:ds.length*(c+2)<=m*(c+2):=Nat.mul_le_mul_right _ hm
  rw[l1]
  have l2':(Str.ofString (if(ds.map (PyData.shown∘pyD)).length==1 then",)"else ")":String)).length<=2:=l2
  omega
theorem zkm{x:Str}(h:zh x=true):Shw 82 1 (.str x):=zme (zP h) (by
 unfold zh at h
 simp only[Bool.and_eq_true,decide_eq_true_eq] at h
 omega)
end RW
namespace RW
open PySem PySem.W PyProof.Rows L2
section
variable{N:Nat}{lt:Nat->Nat->Bool}
theorem zkx{p:Array Nat}(hp:PermN N p)(i n:Nat):PermN N (kas_rev p i n):=(Array.perm_iff_toList_perm.mp (mirror_perm p i n _)).trans hp
theorem zkj{p:Array Nat}(hp:PermN N p):∀f n,1<=n->n+f<=N->OkT N lt (kas_asc p f n) (λm=>n<=m/\m<=n+f)
 |0,n,_,_=>⟨Nat.le_refl _,Nat.le_refl _⟩
 |f+1,n,h1,hn=>by
  refine⟨hp.bd (by omega),hp.bd (by omega),?_⟩
  cases hc:lt (gd p n) (gd p (n -1))with
  |true=>
   show OkT N lt (if true=true then _ else _) _
   rw[if_pos rfl]
   exact⟨Nat.le_refl _,by omega⟩
  |false=>
   show OkT N lt (if false=true then _ else _) _
   rw[if_neg (by decide)]
   exact OkT.mono (λm hm=>⟨by omega,by omega⟩) (zkj hp f (n+1) (by omega) (by omega))
theorem zgn:∀f (p:Array Nat) n q,PermN N p->1<=n->n+f<=N->OkT N lt (kas_desc f p n q) (λr=>PermN N r.1/\n<=r.2.1/\r.2.1<=n+f)
 |0,p,n,q,hp,_,_=>⟨hp,Nat.le_refl _,Nat.le_refl _⟩
 |f+1,p,n,q,hp,h1,hn=>by
  refine⟨hp.bd (by omega),hp.bd (by omega),?_⟩
  cases hc:lt (gd p n) (gd p (n -1))with
  |true=>
   show OkT N lt (if true=true then(if q>0 then _ else _)else _) _
   rw[if_pos rfl]
   split
   ·exact OkT.mono (λm hm=>⟨hm.1,by omega,by omega⟩) (zgn f _ (n+1) 0 (zkx hp _ _) (by omega) (by omega))
   ·exact OkT.mono (λm hm=>⟨hm.1,by omega,by omega⟩) (zgn f _ (n+1) 0 hp (by omega) (by omega))
  |false=>
   show OkT N lt (if false=true then _ else _) _
   rw[if_neg (by decide)]
   refine⟨hp.bd (by omega),hp.bd (by omega),?_⟩
   cases hd:lt (gd p (n -1)) (gd p n)with
   |true=>
    show OkT N lt (if true=true then _ else _) _
    rw[if_pos rfl]
    exact⟨hp,Nat.le_refl _,by show n<=n+(f+1);omega⟩
   |false=>
    show OkT N lt (if false=true then _ else _) _
    rw[if_neg (by decide)]
    exact OkT.mono (λm hm=>⟨hm.1,by omega,by omega⟩) (zgn f _ (n+1) _ hp (by omega) (by omega))
def zhI(N:Nat)(r:Nat×Array Nat):Prop:=PermN N r.2/\1<=r.1/\r.1<=N
theorem zjb{p:Array Nat}{n:Nat}(hp:PermN N p)(h1:1<=n)(hn:n<=N):OkT N lt (kas_tail3 n N p) (zhI N):=by
 refine OkT.bind (OkT.mono (λm hm=>?_) (zkj (zkx hp 0 n) (N -n) n h1 (by omega)))
 exact⟨zkx hp 0 n,by have:=hm.1;omega,by have:=hm.2;omega⟩
theorem ze4{p:Array Nat}{n:Nat}(hp:PermN N p)(h1:1<=n)(hn:n<N):OkT N lt (kas_descPart n N p) (zhI N):=by
 refine OkT.bind (OkT.mono (λr hr=>?_) (zgn (N -(n+1)) p (n+1) 0 hp (by omega) (by omega)))
 obtain⟨r1,r2,r3⟩:=hr
 split
 ·exact zjb (zkx r1 _ _) (by omega) (by omega)
 ·exact zjb r1 (by omega) (by omega)
theorem zml{p:Array Nat}(hp:PermN N p)(h1:1<=N):OkT N lt (kas_count N p) (zhI N):=by
 refine OkT.bind (OkT.mono (λn hn=>?_) (zkj hp (N -1) 1 (Nat.le_refl _) (by omega)))
 obtain⟨n1,n2⟩:=hn
 by_cases hN:(n==N)=true
 ·rw[if_pos hN]
  exact⟨hp,n1,by show n<=N;omega⟩
 ·have hne:n≠N:=by simpa using hN
  rw[if_neg hN]
  by_cases h2:n>1
  ·rw[if_pos h2]
   refine⟨hp.bd (by omega),hp.bd (by omega),?_⟩
   cases hc:lt (gd p 0) (gd p (n -1))with
   |true=>
    show OkT N lt (if true=true then _ else _) _
    rw[if_pos rfl]
    exact⟨hp,n1,by show n<=N;omega⟩
   |false=>
    show OkT N lt (if false=true then _ else _) _
    rw[if_neg (by decide)]
    exact ze4 (zkx hp 0 n) n1 (by omega)
  ·rw[if_neg h2]
   exact ze4 hp n1 (by omega)
theorem zf9{p:Array Nat}{k:Nat}(hp:PermN N p)(hk:k<N):∀f l r,l<=r->r<=k->OkT N lt (kas_place p k f l r) (λ_=>True)
 |0,l,r,_,_=>trivial
 |f+1,l,r,h1,h2=>by
  by_cases hlr:l≥r
  ·show OkT N lt (if l≥r then _ else _) _
   rw[if_pos hlr]
   trivial
  ·show OkT N lt (if l≥r then _ else _) _
   rw[if_neg hlr]
   refine⟨hp.bd hk,hp.bd (by omega),?_⟩
   cases hc:lt (gd p k) (gd p ((l+r)/2))with
   |true=>
    show OkT N lt (if true=true then _ else _) _
    rw[if_pos rfl]
    exact zf9 hp hk f l ((l+r)/2) (by omega) (by omega)
   |false=>
    show OkT N lt (if false=true then _ else _) _
    rw[if_neg (by decide)]
    exact zf9 hp hk f ((l+r)/2+1) r (by omega) h2
theorem znO:∀f (p:Array Nat) k,PermN N p->k+f=N->OkT N lt (kas_bin f p k) (λp'=>PermN N p')
 |0,p,k,hp,hk=>hp
 |f+1,p,k,hp,hk=>by
  refine OkT.bind (OkT.mono (λl _=>?_) (zf9 hp (by omega) k 0 k (Nat.zero_le _) (Nat.le_refl _)))
  exact znO f _ (k+1) ((Array.perm_iff_toList_perm.mp (bubble_perm p k _)).trans hp) (by omega)
theorem zo5(h1:1<=N):OkT N lt (kas_sort N) (λp=>PermN N p):=by
 have h0:PermN N (List.toArray (List.range N)):=by show(List.range N).Perm _;exact List.Perm.refl _
 refine OkT.bind (OkT.mono (λr hr=>?_) (zml h0 h1))
 obtain⟨c1,c3,c4⟩:=hr
 by_cases h:r.1<N
 ·rw[if_pos h]
  have e:max r.1 1=r.1:=by omega
  rw[e]
  exact znO _ _ _ c1 (by omega)
 ·rw[if_neg h]
  exact c1
theorem sort_any(h1:1<=N):OkT N lt (kas_sort N) (λp=>PermN N p/\(Strict N lt->Sor lt p N)):=by
 by_cases S:Strict N lt
 ·exact OkT.mono (λp hp=>⟨hp.1,λ_=>hp.2⟩) (sort_ok S h1)
 ·exact OkT.mono (λp hp=>⟨hp,λz=>absurd z S⟩) (zo5 h1)
end
end RW
namespace L2
open PySem PySem.Spec PySem.W PyProof.Rows
theorem zhx:∀{a b:List Str},a≠b->ltL a b=false->ltL b a=true
 |[],[],h,_=>absurd rfl h
 |[],_::_,_,e=>by cases e
 |_::_,[],_,_=>rfl
 |x::xs,y::ys,h,e=>by
  rw[ltL] at e⊢
  by_cases z:x=y
  ·rw[if_pos z] at e;rw[if_pos z.symm];exact zhx (λq=>h (by rw[z,q])) e
  ·rw[if_neg z] at e;rw[if_neg (Ne.symm z)];exact zbO z e
section
variable{prog:Program}{w:World}{A:Around}{E:Value->Shared->Prop}{s:Shared}
theorem zgP{l:Addr}{T:String}{o:Obj}{n:Nat}{ks:List Value}{R:Value->Shared->Prop}{G:Array Nat->Prop}{κ:SortKind}(hT:T="list"\/T="tuple")(ho:s.heap.get? l=some o)(hc:o.cls= .type T)(hd:o.data= .seq ks.toArray n)(h64:ks.length<64)
 (hk:2<=ks.length->∀s1:Shared,(∀b o,s.heap.get? b=some o->s1.heap.get? b=some o)->(∀C:SortKind->Shared->Prop,C κ s1->wpAny (model prog w) A.in1.in1 (keyKind' ks.toArray) C (λ_ _=>False) s1)/\(kas_sort ks.length).kasWp (kas_ask prog w A.in1.in1 κ ks) (λp s'=>s'=s1/\G p) s1)
 (q:∀(D:Addr) (out:List Value) (h':Heap) (c:Nat),(ks.length<2/\out=ks\/∃p:Array Nat,p.size=ks.length/\G p/\out=p.toList.map λi=>ks.getD i Value.none)->(∀b o,s.heap.get? b=some o->h'.get? b=some o)->
   s.heap.objs.size<=D->h'.get? D=some (seqObj "list" out.toArray c)->R (.ref D) {s with heap:=h'}):wpAny (model prog w) A (call (.builtin "sorted") [.ref l]) R E s:=by
 refine Calls.call_function_entry kind_sorted plain_sorted entry_sorted (args_sorted1 _) ?_
 unfold Builtin.«sorted»
 refine wpAny_bind (m:=checkCount "sorted" 1 1 _) (wpAny_pure (wpAny_bind (zd1 hT ho hc hd (by rw[sizeLine_eq];omega) λh1 kp gr0=>?_)))
 refine wpAny_bind (wpAny_newList ?_ (by rw[sizeLine_eq];omega))
 have hD:(h1.push (seqObj "list" ks.toArray 0)).get? h1.objs.size=some (seqObj "list" ks.toArray 0):=Heap.get?_push_size _ rfl
 have k2:∀b o,s.heap.get? b=some o->(h1.push (seqObj "list" ks.toArray 0)).get? b=some o:=λb o e=>Heap.get?_push_of_some _ (kp b o e)
 have gr:s.heap.objs.size<=h1.objs.size:=Nat.le_of_lt gr0
 show wpAny _ _ _ _ _ {s with heap:=h1.push (seqObj "list" ks.toArray 0)}
 refine wpAny_bind (wpAny_holding (wpAny_call_entry slot_list_sort ⟨_,hD,rfl⟩ entry_list_sort (zfA (G:=G) (κ:=κ) (s:={s with heap:=h1.push (seqObj "list" ks.toArray 0)}) hD h64 (λh2 s1 k1=>?_) λout h' c hc hkp hg=>?_) (args_list_sort _)))
 ·obtain ⟨x1,x2⟩:=hk h2 s1 λb o e=>k1.2 b o (Nat.ne_of_lt (Nat.lt_of_lt_of_le (Heap.lt_size e) gr)) (k2 b o e)
  exact⟨λC hC=>wpAny_mono (x1 C hC) (λ_ _ z=>z) λ_ _ z=>z.elim,x2⟩
 ·exact ⟨_,rfl,wpAny_pure ⟨_,rfl,q h1.objs.size out h' c hc (λb o e=>hkp b o (Nat.ne_of_lt (Nat.lt_of_lt_of_le (Heap.lt_size e) gr)) (k2 b o e)) gr hg⟩⟩
end
section
variable{X:Cx}{K:PySem.W.Frag}
theorem zhQ{vs:List V}{us:List Value}(hl:vs.length=us.length)(h:∀(i:Nat) (v:V) (u:Value),vs[i]?=some v->us[i]?=some u->RelV v u):Vals vs us:=by
 induction vs generalizing us with
 |nil=>match us,hl with|[],_=>exact .nil
 |cons v vs ih=>
  match us,hl with
  |u::us,hl=>exact .cons (h 0 v u rfl rfl) (ih (by simpa using hl) λi v u e1 e2=>h (i+1) v u (by simpa using e1) (by simpa using e2))
end
end L2
namespace L2
open PySem PySem.Spec PyProof.Rows
section
variable{X:Cx}{K:PySem.W.Frag}{o:Expr}{to:TE}{name:Str}{apos cpos:Pos}{T id:String}{r:V->List V->Hp->VK->Prop}
theorem zpg(pa:PlainAttrs T)(slot:Slot T name id)(hty:typeOf (.builtin id)=pure (.type "method_descriptor"))(hm:MtR X id r)(ho:QE X o to)
 (hbase:attributeBase o name X.env (eval o X.env)=eval o X.env:=by rfl) (hline:(apos.endLine==cpos.line)=true:=by rfl):QE X (.Call (.Attribute o name apos) [] [] cpos) (zpL X.K T r to):=⟨zoA pa slot hty hm ho.o hbase hline⟩
end
section
variable{X:Cx}{K:PySem.W.Frag}
end
end L2
namespace RW
open PySem PySem.Spec PyProof.Rows L2
def zlV:List Str->Bool
 |[a,b,w]=>zh a&&zh b&&(if w="equal"then ltS a b else decide (w="over")&&!decide (a=b))
 |_=>false
def zhU(r:List Str):List Str:=srt (r.take 2)
structure KinOk(rs:List (List Str)):Prop where
 row:∀r∈rs,zlV r=true
 rise:rs.Pairwise (λa b=>ltL a b=true)
 ties:(rs.map zhU).Nodup
def pr(a b:Str):List Str:=srt [a,b]
abbrev at_(xs:List Str)(i:Nat):Str:=xs.getD i ""
structure KD62(xs:List Str)(ps:List (Nat×Nat))(k:Nat)(rs:List (List Str)):Prop where
 row:∀r∈rs,zlV r=true
 nd:(rs.map zhU).Nodup
 few:rs.length<=k
 old:∀r∈rs,∃q∈ps.take k,q.1<q.2/\zhU r=pr (at_ xs q.1) (at_ xs q.2)
section
variable{te tf:TE}{ta:TA}{σ:L2.St}{H:Hp}{P P':D->Prop}{d:D}{ds:List D}{n:Nat}{K:PySem.W.Frag}
end
end RW
namespace HT
open PySem PySem.Spec PyProof.Rows L2
section
variable{prog:Program}{w:World}{A:Around}{E:Value->Shared->Prop}{s:Shared}
theorem zeh:isSubtype (.type "range_iterator") (.type "reversed")=pure false:=by rw[isSubtype_type];kernel_rfl
def downObj(n:Nat):Obj:={cls:= .type "range_iterator",data:= .fields #[rawInt ((n:Int) -1),rawInt (n:Int),rawInt (-1)]}
theorem zjm(r:Addr)(a b c:Int)(t u v:Tok)(hc0:¬(!(Builtin.Range.rangeFitsLong a&&Builtin.Range.rangeFitsLong b&&Builtin.Range.rangeFitsLong c&&Builtin.Range.rangeFitsLong (-c)&&Builtin.Range.rangeFitsLong (a -c)&&Builtin.Range.rangeFitsLong (Builtin.Range.rangeSize a b c)))=true):
 Meets (Builtin.«range.__reversed__» ⟨[.ref r],[]⟩) (λ_ R s=>s.heap.get? r=some {cls:= .type "range",dict:=none,data:= .fields #[.int a t, .int b u, .int c v],slots:= #[]}/\R (.ok (.ret (Value.ref s.heap.objs.size))) {s with heap:=s.heap.push {cls:=Value.type (if(Builtin.Range.rangeFitsLong a&&Builtin.Range.rangeFitsLong b&&Builtin.Range.rangeFitsLong c&&Builtin.Range.rangeFitsLong (-c)&&Builtin.Range.rangeFitsLong (a -c)&&Builtin.Range.rangeFitsLong (Builtin.Range.rangeSize a b c))=true then"range_iterator"else "longrange_iterator"),data:=Data.fields #[rawInt (a+(Builtin.Range.rangeSize a b c -1)*c),rawInt (Builtin.Range.rangeSize a b c),rawInt (-c)]},toks:=s.toks}):=
 .of_wp λprog w A R s h=>by obtain⟨hp,g,d,tk,os⟩:=s;obtain⟨hl,h⟩:=h;wp_walk;exact⟨_,rfl,h⟩
theorem zew{r:Addr}{n:Nat}{t u v:Tok}{Q:Value->Shared->Prop}(hr:s.heap.get? r=some {cls:= .type "range",data:= .fields #[.int 0 t, .int (n:Int) u, .int 1 v]})(hn:n<=1000)
 (h:Q (.ref s.heap.objs.size) {s with heap:=s.heap.push (downObj n)}):wpAny (model prog w) A (call (.builtin "range.__reversed__") [.ref r]) Q E s:=by
 have hT:s.TypeIs (.ref r) "range":=⟨_,hr,rfl⟩
 have e1:Builtin.Range.rangeSize 0 (n:Int) 1=(n:Int):=by rw[rangeSize_one];split<;>omega
 have ft:∀i:Int,-(2^63)<=i->i<2^63->Builtin.Range.rangeFitsLong i=true:=λi h1 h2=>by
  unfold Builtin.Range.rangeFitsLong
  rw[decide_eq_true h1,decide_eq_true h2];rfl
 have e2:(Builtin.Range.rangeFitsLong 0&&Builtin.Range.rangeFitsLong (n:Int)&&Builtin.Range.rangeFitsLong 1&&Builtin.Range.rangeFitsLong (-1)&&Builtin.Range.rangeFitsLong (0 -1)&&Builtin.Range.rangeFitsLong (Builtin.Range.rangeSize 0 (n:Int) 1))=true:=by
  rw[e1,ft 0 (by decide) (by decide),ft (n:Int) (by omega) (by omega),ft 1 (by decide) (by decide),ft (-1) (by decide) (by decide),ft (0 -1) (by decide) (by decide)];rfl
 refine call_meets PySem.F.slot_range_reversed hT PySem.F.entry_range_reversed (PySem.F.args_range_reversed_1 _) (zjm r 0 (n:Int) 1 t u v (by rw[e2];decide)) ⟨hr,?_⟩
 rw[if_pos e2,e1]
 have e3:(0:Int)+((n:Int) -1)*1=(n:Int) -1:=by omega
 rw[e3]
 exact h
theorem zdB{r:Addr}{n:Nat}{t u v:Tok}{Q₁:Value->Shared->Prop}(hr:s.heap.get? r=some {cls:= .type "range",data:= .fields #[.int 0 t, .int (n:Int) u, .int 1 v]})(hn:n<=1000)
 (h:Q₁ (.ref s.heap.objs.size) {s with heap:=s.heap.push (downObj n)}):
 codeAny (model prog w) A (.call (.builtin "reversed.__new__") ⟨[.type "reversed", .ref r],[]⟩) (wants Q₁ E) s:=by
 have hT:s.TypeIs (.ref r) "range":=⟨_,hr,rfl⟩
 refine codeAny_of_tree ?_
 show wpAny _ A.in1 (do checkBuiltinCall "reversed.__new__" ⟨[.type "reversed", .ref r],[]⟩;again (.builtin "reversed.__new__" ⟨[.type "reversed", .ref r],[]⟩)) _ _ s
 refine wpAny_bind (wpAny_of_eq (PySem.F.newCall_reversed_1 _) (wpAny_pure ⟨plainId_quiet PySem.F.plain_reversed_new _,codeAny_builtin PySem.F.entry_reversed_new ?_⟩))
 rw[Around.under_plainId PySem.F.plain_reversed_new _]
 unfold Builtin.«reversed.__new__»
 refine wpAny_bind (wpAny_of_eq (newClass_reversed _) ?_)
 try dsimp only
 refine wpAny_bind (wpAny_of_eq (a:=()) (by first|rfl|kernel_rfl) ?_)
 refine wpAny_bind (wpAny_of_eq (a:=()) (by first|rfl|kernel_rfl) ?_)
 try dsimp only
 refine wpAny_bind (wpAny_specialOf hT PySem.F.slot_range_reversed.lookup ?_)
 try dsimp only
 refine wpAny_bind (wpAny_of_eq (PySem.F.slot_range_reversed.bind _) ?_)
 try dsimp only
 first
 |rw[if_neg (show¬((Value.builtin "range.__reversed__"==Value.none)=true)from Bool.false_ne_true)]
 |(show wpAny _ _ (if(Value.builtin "range.__reversed__"==Value.none)=true then _ else _) _ _ _;rw[if_neg (show¬((Value.builtin "range.__reversed__"==Value.none)=true)from Bool.false_ne_true)])
 refine wpAny_bind (wpAny_rule ?_)
 refine wpAny_bind (m:=runValue (.call (.builtin "range.__reversed__") ⟨[.ref r],[]⟩)) (show wpAny _ _ (call (.builtin "range.__reversed__") [.ref r]) _ _ _ from zew hr hn ?_)
 first
 |exact wpAny_pure h
 |exact wpAny_bind (wpAny_pure (wpAny_pure h))
theorem call_reversed_rng{r:Addr}{n:Nat}{t u v:Tok}{Q:Value->Shared->Prop}(hr:s.heap.get? r=some {cls:= .type "range",data:= .fields #[.int 0 t, .int (n:Int) u, .int 1 v]})(hn:n<=1000)
 (h:Q (.ref s.heap.objs.size) {s with heap:=s.heap.push (downObj n)}):wpAny (model prog w) A (call (.type "reversed") [.ref r]) Q E s:=by
 refine callType_other (U:="range_iterator") (Q₁:=λobj s₁=>obj= .ref s.heap.objs.size/\s₁={s with heap:=s.heap.push (downObj n)}) (by decide +kernel) PySem.F.create_reversed ⟨_,_,PySem.F.mro_reversed⟩ PySem.F.made_reversed zeh (PySem.F.typeCall_reversed_1 _) (zdB hr hn ⟨rfl,rfl⟩) ?_
 rintro obj s₁ ⟨rfl,rfl⟩
 exact⟨⟨_,Heap.get?_push_size _ rfl,rfl⟩,h⟩
end
end HT
namespace L2
open PySem PySem.Spec PyProof.Rows
def zmm(n:Nat):It:=⟨λi _=>i<n,λi H x H'=>H'=H/\x= .int ((n:Int) -1 -i),λi _=>n<=i⟩
theorem zl9{n:Nat}:Wk (zmm n) n (λi x=>x= .int ((n:Int) -1 -i)) (λ_=>True) where
 stop:=λi H h l=>l
 go:=λi H h l=>l
 yld:=λi H x H' h l y=>y
theorem zjj{P:Program}{w:World}{K:PySem.W.Frag}{tg:Expr}(it:Addr)(n:Nat):Turn P w K tg (zmm n) [it] it (λi h=>IsRangeIter h it ((n:Int) -1+(i:Nat)*(-1)) ((n:Int) -(i:Nat)) (-1)) where
 mem:=by simp
 obj:=λi h st b hb=>by
  have e:b=it:=by simpa using hb
  subst e
  exact⟨_,st,λv z=>by
   have z':Data.fields _=Data.cell v:=z
   cases z'⟩
 keep:=λi h h' st k=>k it (by simp) _ st
 item:=by
  intro X hP hw hK hc i pins s σ H E I hf st hg
  subst hP hw hK
  obtain⟨f0,f1,f2,f3,f4,f5⟩:=hf it (by simp)
  have W:=Walks.range (prog:=X.prog) (w:=X.w) (I.ok.hd hc) it ((n:Int) -1) (-1) n
  refine W.item i s _ _ hg st λv h' tk hv st' kk=>?_
  obtain⟨t,rfl⟩:=hv
  have I1:Inv X pins σ H {s with heap:=h',toks:=tk}:=I.turned (λb o hb e=>kk b o (by simpa using hb) e) f0 f1 f3 f4 f5
  refine⟨_,rfl,ziG (s:={s with heap:=h',toks:=tk}) (n:="range_iterator") st' rfl rfl (by decide) ⟨.int ((n:Int) -1 -i),H,I1,⟨t,?_⟩,⟨rfl,rfl⟩,st',λb hb=>(hf b hb).1⟩⟩
  congr 1
  omega
 done:=by
   intro X hP hw hK hc i pins s σ H E I hf st hg
   subst hP hw hK
   obtain⟨f0,f1,f2,f3,f4,f5⟩:=hf it (by simp)
   exact wpAny_pyNext_range_end (I.ok.hd hc) st (by have:n<=i:=hg;omega) λh' eb=>⟨rfl,I.turned (t':=s.toks) (λb o hb e=>eb b o hb e) f0 f1 f3 f4 f5⟩
 self:=λ_ _ _ _ _ st h=>wpAny_pyIter_rangeiter st h
section
variable{X:Cx}{tg:Expr}
theorem zmD{pins:List (Addr×Obj)}{σ:St}{H:Hp}{s:Shared}{R:It->Hp->Prop}{E:Value->Shared->Prop}{n:Nat}{t u v:Tok}{tk:Nat}(I:Inv X pins σ H s)(hn:n<=1000)(q:R (zmm n) H):
 wpAny (model X.prog X.w) X.A (call (.type "reversed") [.ref s.heap.objs.size]) (λv s1=>wpAny (model X.prog X.w) X.A (pyIter v) (PIE X pins σ tg R) E s1) E {s with heap:=s.heap.push {cls:= .type "range",data:= .fields #[.int 0 t, .int (n:Int) u, .int 1 v]},toks:=tk}:=by
 refine HT.call_reversed_rng (Heap.get?_push_size _ rfl) hn ?_
 have I2:Inv X pins σ H {s with heap:=(s.heap.push {cls:= .type "range",data:= .fields #[.int 0 t, .int (n:Int) u, .int 1 v]}).push (HT.downObj n),toks:=tk}:=I.kept λb o e=>Heap.get?_push_of_some _ (Heap.get?_push_of_some _ e)
 have hit:IsRangeIter ((s.heap.push {cls:= .type "range",data:= .fields #[.int 0 t, .int (n:Int) u, .int 1 v]}).push (HT.downObj n)) (s.heap.push {cls:= .type "range",data:= .fields #[.int 0 t, .int (n:Int) u, .int 1 v]}).objs.size ((n:Int) -1+((0:Nat):Int)*(-1)) ((n:Int) -((0:Nat):Int)) (-1):=by
  have e1:(n:Int) -1+((0:Nat):Int)*(-1)=(n:Int) -1:=by omega
  have e2:(n:Int) -((0:Nat):Int)=(n:Int):=by omega
  rw[e1,e2]
  exact Heap.get?_push_size _ rfl
 refine wpAny_pyIter_rangeiter hit ?_
 refine⟨_,[_],_,_,H,rfl,I2,zjj _ n,hit,λb hb=>?_,q⟩
 have e:b=(s.heap.push {cls:= .type "range",data:= .fields #[.int 0 t, .int (n:Int) u, .int 1 v]}).objs.size:=by simpa using hb
 have hb':s.heap.objs.size<=b:=by rw[e,Heap.size_push];exact Nat.le_succ _
 exact I.fpOk hb' (I.hok.fresh hb')
def zpQ(ta:TA):TI:=λσ H R=>ta σ H λvs H1=>∃n:Nat,vs=[.int (n:Int)]/\n<=1000/\R (zmm n) H1
theorem zfg:bootBuiltins "reversed"=some (.type "reversed"):=by kernel_rfl
theorem zoC{a:Expr}{ta:TA}{p p2 pos pos2:Pos}(hm:X.mg "range"=none)(hm2:X.mg "reversed"=none)(ha:QA X [a] ta)(hg:Gl X "range":=by rfl)(hg2:Gl X "reversed":=by rfl)(hs:starEach [a] X.env=[(false,eval a X.env)]:=by rfl)
 (hs2:starEach [.Call (.Name "range" p2) [a] [] pos2] X.env=[(false,eval (.Call (.Name "range" p2) [a] [] pos2) X.env)]:=by rfl):QI X tg (.Call (.Name "reversed" p) [.Call (.Name "range" p2) [a] [] pos2] [] pos) (zpQ ta):=⟨by
 intro pins s σ H R I h
 refine Call_ (zcx I hg2 hm2 zfg (PyProof.Rows.callWith_type1 (Q:=_) ?_ hs2 rfl))
 rw[hs2]
 refine Calls.spliced_cons (Call_ (zcx I hg hm boot_range (PyProof.Rows.callWith_type1 (thn (ha.o pos2 pins s σ H _ I h) λus s1 ⟨vs,H1,I1,r1,q1⟩=>?_) hs rfl)))
 obtain⟨n,rfl,hn,q⟩:=q1
 obtain⟨u,rfl,ru⟩:=zb6 r1
 obtain⟨t,rfl⟩:=ru
 refine call_range_1 (Calls.spliced_nil ?_)
 exact zmD I1 hn q⟩
end
section
variable{X:Cx}
theorem zmM{c:Expr}{body:List Stmt}{tc:TT}{tb:TS}{pos:Pos}(hc:QT X c tc)(hb:QB X body tb)(hp:PassesOwn (model X.prog X.w) X.A X.env X.xe:=by exact PassesOwn.never):QS X (.While c body [] pos) (zli tc tb):=⟨zlx hp hc.o hb.o⟩
end
end L2
namespace RW
open PySem PySem.Spec PyProof.Rows L2
def zp2:D->List D| .tup rs=>rs|_=> []
def zO:List Str->List D->Str->List D
 |h::hs,d::ds,x=>if h=x then zp2 d else zO hs ds x
 |_,_,_=> []
theorem zcp{x:Str}{rs:List D}:∀{hs:List Str} {ds:List D} {j:Nat},hs.Nodup->hs[j]?=some x->ds[j]?=some (.tup rs)->zO hs ds x=rs
 |[],_,j,_,h1,_=>by simp at h1
 |h::hs,[],j,_,_,h2=>by simp at h2
 |h::hs,d::ds,0,_,h1,h2=>by
  simp at h1 h2
  subst h1 h2
  rw[zO,if_pos rfl];rfl
 |h::hs,d::ds,j+1,nd,h1,h2=>by
  simp only[List.getElem?_cons_succ] at h1 h2
  rw[List.nodup_cons] at nd
  have hne:¬h=x:=λe=>nd.1 (e▸List.mem_of_getElem? h1)
  rw[zO,if_neg hne]
  exact zcp nd.2 h1 h2
def zdj:D->Bool| .non=>true|_=>false
theorem ziQ{H:Hp}{u:V}{d:D}(r:Rep H u d):decide (u=V.non)=zdj d:=by
 cases r<;>first|rfl|exact decide_eq_false (λz=>by cases z)
def zao(hs:List Str)(lks hds:List D)(y:Str)(w ms:List Str):Option (List Str):=
 match zv w (some y) (zO hs hds (w.headD "")) ms with
 |none=>none
 |some t=>if zdj (zw (y::w) t (zO hs lks y))=true then none else some t
def zk(hs:List Str)(lks hds:List D):List Str->Option (List Str)
 |[]=>some []
 |[_]=>some []
 |y::x::ws=>match zk hs lks hds (x::ws)with
  |none=>none
  |some t=>zao hs lks hds y (x::ws) t
structure Mr(O t:List Str):Prop extends Mk O t where
 rise:t.Pairwise (λa b=>ltS a b=true)
theorem Mr.next{O t:List Str}{w m:Str}(h:Mr O t)(hm:m∈O):Mr O (ziI t w m):=⟨h.toMk.next hm,zhd (zdX h.nd)⟩
theorem Mr.nil{O:List Str}:Mr O []:=⟨⟨List.nodup_nil,λ_ h=>nomatch h⟩,List.Pairwise.nil⟩
theorem zcX{O:List Str}{ws:List Str}{to:Option Str}:∀{rs:List D} {ms t:List Str},(∀r∈rs,∃cs x,r= .tup [.tup cs,x]/\(∀c∈cs,zL c=true)/\(x= .tup [.str "keep"]\/∃w m,x= .tup [.str w, .str m]/\(w="put"\/w="strike")/\m∈O))->Mr O ms->zv ws to rs ms=some t->Mr O t
 |[],ms,t,_,h,e=>by rw[zv] at e;cases e;exact h
 |r::rs,ms,t,hr,h,e=>by
  obtain⟨cs,x,rfl,_,hx⟩:=hr r List.mem_cons_self
  have hr':=λr h=>hr r (List.mem_cons_of_mem _ h)
  rw[zv] at e
  split at e
  ·rcases hx with rfl|⟨w,m,rfl,_,hm⟩
   ·cases e
   ·exact zcX hr' (h.next hm) e
  ·exact zcX hr' h e
theorem zlf{O hs:List Str}{lks hds:List D}{y:Str}{w ms t:List Str}(hk:zdt O (zO hs hds (w.headD "")))(h:Mr O ms)(e:zao hs lks hds y w ms=some t):Mr O t:=by
 unfold zao at e
 split at e
 ·cases e
 ·rename_i t' e'
  split at e
  ·cases e
  ·cases e
   exact zcX hk.2 h e'
end RW
namespace L2
section
variable{α:Type}{P:List α->Prop}
theorem of1(h:∀a,P [a]):∀us:List α,us.length=1->P us
 |[a],_=>h a
theorem of2(h:∀a b,P [a,b]):∀us:List α,us.length=2->P us
 |[a,b],_=>h a b
theorem of3(h:∀a b c,P [a,b,c]):∀us:List α,us.length=3->P us
 |[a,b,c],_=>h a b c
theorem of4(h:∀a b c d,P [a,b,c,d]):∀us:List α,us.length=4->P us
 |[a,b,c,d],_=>h a b c d
end
end L2
namespace HT
open PySem PySem.Spec PyProof.Rows L2
section
variable{prog:Program}{w:World}{A:Around}{R:Result->Shared->Prop}{I:Addr}{fp wr:List Addr}{n:Nat}{P:Nat->Value->Prop}{St:Nat->Heap->Prop}
end
section
variable{prog:Program}{w:World}{A:Around}{E:Value->Shared->Prop}{s:Shared}
end
end HT
namespace L2
open PySem PySem.Spec PyProof.Rows
section
variable{X:Cx}
end
section
variable{X:Cx}
end
end L2
namespace L2
open PySem PySem.W PySem.Spec PyProof.Rows PyProof.V
section
variable{X:Cx}
end
end L2
namespace HT
open PySem PySem.Spec PyProof.Rows L2
section
variable{prog:Program}{w:World}{A:Around}{R:Result->Shared->Prop}{I:Addr}{fp wr:List Addr}{n:Nat}{P:Nat->Value->Prop}{St:Nat->Heap->Prop}
end
section
variable{prog:Program}{w:World}{A:Around}{E:Value->Shared->Prop}{s:Shared}
end
section
variable{prog:Program}{w:World}{A:Around}{E:Value->Shared->Prop}{s:Shared}
end
end HT
namespace L2
open PySem PySem.W PySem.Spec PyProof.Rows PyProof.V
section
variable{X:Cx}
end
end L2
namespace L2
open PySem PySem.Spec PyProof.Rows
section
variable{prog:Program}{w:World}{A:Around}{R:Result->Shared->Prop}{s:Shared}{kx vx t1 i1 t2 i2:Expr}{f1 f2:List Expr}{scope:Scope}{pos:Pos}{it acc:Value}{env:Env}{d:Addr}
end
section
variable{X:Cx}{kx vx tg iter tg2 iter2:Expr}{ifs ifs2:List Expr}{scope osc:Scope}{pos:Pos}{N':List Str}{src:List (Option Nat)}{wi wi2:TI}{g g2:TG}{tc tc2:TT}{tk tv:TE}{y:Str}{py spos:Pos}{k:Nat}
end
section
variable{X:Cx}{pos:Pos}{pins:List (Addr×Obj)}{σ:St}{H:Hp}{s:Shared}
end
end L2
namespace RW
open PySem PySem.Spec PyProof.Rows L2
structure RingG(G:Str->List Str)(xs:List Str):Prop where
 two:2<=xs.length
 ends:xs[0]?=xs[xs.length -1]?
 nd:(xs.drop 1).Nodup
 nxt:∀i a b,xs[i]?=some a->xs[i+1]?=some b->a∈G b
structure Led(H:Hp)(kvs:List (Key×V))(ks:List Str)(G:Str->List Str):Prop where
 keys:kvs.map (·.1)=ks.map Sum.inr
 nd:ks.Nodup
 at_:∀x∈ks,∃l,zaI kvs (Sum.inr x)=some (.ref l)/\H l=some (.lst ((G x).map V.str))
 sub:∀x∈ks,∀y∈G x,y∈ks
 short:∀x∈ks,x.length<=1000
 few:ks.length<=60/\∀x∈ks,(G x).length<=60
def tol(tk:List (Key×V))(x:Str):Bool:=(zaI tk (Sum.inr x)).isSome
structure Tld63(tk:List (Key×V))(ks:List Str)(G:Str->List Str):Prop where
 opn:∀x∈ks,tol tk x=false->∃y∈G x,tol tk y=false
 sure:∀W:Str->Prop,(∀b,W b->∃a∈G b,W a)->∀b,W b->tol tk b=false
structure Peel(rs R:List (List Str)):Prop where
 sub:∀r∈R,r∈rs/\at_ r 2=("over":Str)
 out:∀W:Str->Prop,(∀b,W b->∃a,[a,b,"over"]∈rs/\W a)->∀a b,W a->W b->[a,b,"over"]∈rs->[a,b,"over"]∈R
structure LR(ks:List Str)(G:Str->List Str)(tk:List (Key×V))(ws:List Str):Prop where
 sub:∀x∈ws,x∈ks
 cov:∀x∈ks,x∈ws\/tol tk x=true
 sure:∀W:Str->Prop,(∀b,W b->∃a∈G b,W a)->∀b,W b->tol tk b=false
 inv:∀x v,zaI tk (Sum.inr x)=some v->∃n,v=V.int n
 len:tk.length+ws.length<=ks.length
structure LRi(ks:List Str)(G:Str->List Str)(tk:List (Key×V))(ws ys:List Str)(i:Nat)(fr:Bool):Prop where
 sub:∀x∈ys,x∈ks
 cov:∀x∈ks,x∈ys\/x∈ws.drop i\/tol tk x=true
 sure:∀W:Str->Prop,(∀b,W b->∃a∈G b,W a)->∀b,W b->tol tk b=false
 inv:∀x v,zaI tk (Sum.inr x)=some v->∃n,v=V.int n
 len:tk.length+ys.length+(ws.length -i)<=ks.length
 le:ys.length<=i
 lt:fr=true->ys.length<i
 opn:fr=false->∀x∈ys,∃y∈G x,tol tk y=false
structure Wlk(ks:List Str)(G:Str->List Str)(tk:List (Key×V))(row:List Str)(x:Str):Prop where
 nd:row.Nodup
 sub:∀y∈row,y∈ks
 ch:∀i a b,row[i]?=some a->row[i+1]?=some b->b∈G a
 nx:∀a,row[row.length -1]?=some a->x∈G a
 xk:x∈ks
 xu:tol tk x=false
end RW
namespace L2
open PySem PySem.Spec PyProof.Rows
end L2
namespace RW
open PySem PySem.Spec PyProof.Rows L2
structure EL(H H':Hp)(kvs:List (Key×V))(ks:List Str)(G:Str->List Str):Prop where
 keys:kvs.map (·.1)=ks.map Sum.inr
 nd:ks.Nodup
 at_:∀x∈ks,∃l,zaI kvs (Sum.inr x)=some (.ref l)/\H' l=some (.lst ((G x).map V.str))/\H l=none
 apart:∀x∈ks,∀y∈ks,∀l,zaI kvs (Sum.inr x)=some (.ref l)->zaI kvs (Sum.inr y)=some (.ref l)->x=y
def kOf(t:List Str):List Key:=t.map Sum.inr
structure RT(H:Hp)(kvs:List (List Key×V))(rs:List (List Str)):Prop where
 len:kvs.length=rs.length
 at_:∀(j:Nat) (kv:List Key×V) (r:List Str),kvs[j]?=some kv->rs[j]?=some r->∃b,kv.1=kOf (zhU r)/\kv.2= .ref b/\H b=some (.tup (r.map V.str))
 row:∀r∈rs,zlV r=true
 nd:(rs.map zhU).Nodup
structure RG(xs:List Str)(m:Nat)(rs:List (List Str)):Prop where
 row:∀r∈rs,zlV r=true
 nd:(rs.map zhU).Nodup
 old:∀r∈rs,∃i j,i<m/\j<m/\zhU r=pr (at_ xs i) (at_ xs j)
structure MAt(K:PySem.W.Frag)(C:Addr)(x qual:Str)(st:Stmt)(ps:List Str)(f:Addr)(fd:FuncData):Prop where
 fn:Fun K x qual st f fd
 b:Binds K fd ps []
 m:Meth K C x f
end RW
namespace L2
open PySem PySem.Spec PyProof.Rows
section
variable{X:Cx}{o e value:Expr}{f m:Str}{pos pos' tpos apos:Pos}{ta tv:TE}{K:PySem.W.Frag}{es:List Expr}{t:TA}{C fa:Addr}{fd:FuncData}{CX:CXT}{k:Nat}{ps:List Str}{sp:Sp}{dvs:List V}{ds:List Value}{E:XK}
end
end L2
namespace RW
open PySem PySem.Spec PyProof.Rows L2
inductive TrC(K:PySem.W.Frag)(H:Hp):V->PyData->Prop
 |non:TrC K H .non .none
 |bl (b:Bool):TrC K H (.bl b) (.bool b)
 |int (i:Int):TrC K H (.int i) (.int i)
 |str (x:Str) (h:PyData.strOk x=true):TrC K H (.str x) (.str x)
 |tup {p:Addr} {vs:List V} {ds:List PyData} (e:SqT K H p vs) (hl:vs.length=ds.length) (h:∀(i:Nat) (v:V) (d:PyData),vs[i]?=some v->ds[i]?=some d->TrC K H v d):TrC K H (.ref p) (.tuple ds)
section
variable{X:Cx}
end
end RW
namespace L2
open PySem PySem.Spec PyProof.Rows
theorem zmr{X:Cx}{st:Stmt}:QS X st (λ_ _ _=>False):=⟨λpins s σ H D I h=>h.elim⟩
theorem ze2(kx vx target iter:Expr)(ifs:List Expr)(scope:Scope)(pos:Pos)(it:Value)(d:Addr)(env:Env):
 compTurn (.DictComp kx vx [⟨target,iter,ifs,0⟩] scope pos) 0 it (.ref d) env=(do
  standAt iter.pos
  match←pyNext it with
  |none=>pure (.done .next)
  |some v=>
   letOwnedTupleGo target it v
   assign target env v
   let mut ok:=true
   for c in ifs do
    if ok then ok ←isTrue c env (eval c env)
   if ok then
    (do
      let kv ←eval kx env
      let vv ←holding [kv] (eval vx env)
      standAt {kx.pos with endLine:=vx.pos.endLine,endCol:=vx.pos.endCol}
      holding [kv,vv] (dictSet d kv vv))
   again (.compLoop (.DictComp kx vx [⟨target,iter,ifs,0⟩] scope pos) 0 it (.ref d) env)):=by rfl
theorem zl8{prog:Program}{w:World}{A:Around}{R:Result->Shared->Prop}{s:Shared}{kx vx target iter:Expr}{ifs:List Expr}{scope:Scope}{pos:Pos}{it:Value}{d:Addr}{env:Env}(I:Nat->Shared->Prop)
 (turn:∀n s,I n s->wpAny (model prog w) A (pyNext it) (λr s1=>match r with
   |none=>R (.ok .next) s1
   |some v=>wpAny (model prog w) A (letOwnedTupleGo target it v) (λ_ s1'=>wpAny (model prog w) A (assign target env v) (λ_ s2=>wpAny (model prog w) A (zfW ifs env) (λok s3=>
     if ok=true then wpAny (model prog w) A (eval kx env) (λk s4=>wpAny (model prog w) A (eval vx env) (λx s4'=>wpAny (model prog w) A (dictSet d k x) (λ_ s5=>∃m,m<n/\I m s5) (λ_ _=>False) s4') (λ_ _=>False) s4) (λ_ _=>False) s3
     else∃m,m<n/\I m s3) (λ_ _=>False) s2) (λ_ _=>False) s1') (λ_ _=>False) s1) (λ_ _=>False) s)
 (n:Nat) (h:I n s):codeAny (model prog w) A (.compLoop (.DictComp kx vx [⟨target,iter,ifs,0⟩] scope pos) 0 it (.ref d) env) R s:=by
 have no:∀{E:Value->Shared->Prop} (e:Value) (s:Shared),(λ(_:Value) (_:Shared)=>False) e s->E e s:=λ_ _ z=>False.elim z
 refine codeAny_loop rfl I (λn s hI=>?_) n h
 show wpAny _ A ((compTurn (.DictComp kx vx [⟨target,iter,ifs,0⟩] scope pos) 0 it (.ref d) env).onRaise (λx=>do noteFrame x env;theTreesLotGoes x)) _ _ s
 refine wpAny_noted ?_
 rw[ze2]
 refine wpAny_bind (wpAny_standAt (wpAny_bind (wpAny_mono (turn n s hI) (λr s₁ h₁=>?_) no)))
 cases r with
 |none=>exact wpAny_pure h₁
 |some v=>
  refine wpAny_bind (wpAny_mono h₁ (λ_ s1' h1'=>?_) no)
  refine wpAny_bind (wpAny_mono h1' (λ_ s₂ h₂=>wpAny_bind (wpAny_mono h₂ (λok s₃ h₃=>?_) no)) no)
  cases ok with
  |false=>exact wpAny_pure ⟨rfl,h₃⟩
  |true=>
   exact wpAny_bind (wpAny_bind (wpAny_mono h₃ (λk s₄ h₄=>wpAny_bind (wpAny_holding (wpAny_mono h₄ (λx s₅ h₅=>wpAny_bind (wpAny_standAt (wpAny_holding (wpAny_mono h₅ (λ_ s₆ h₆=>wpAny_pure ⟨rfl,h₆⟩) no)))) no))) no))
def zhs(g:TG)(tc:TT)(tk tv:TE)(src:List (Option Nat))(σ:St)(Q:VK)(J:It)(H1:Hp):Prop:=∀l,H1 l=none->
 ∃W:Nat->Nat->List (Key×V)->St->Hp->Prop,(∃m,W 0 m [] (zdk src σ) (upd H1 l (.dK [])))/\∀i m ys σ' H',W i m ys σ' H'->H' l=some (.dK ys)->
  (J.stop i H'/\Q (.ref l) H')\/(J.go i H'/\∃N:List (Key×V)->St->Hp->Prop,(∀zs σ2 H2,N zs σ2 H2->∃m',m'<m/\W (i+1) m' zs σ2 H2)/\∀x H2,J.yld i H' x H2->g x σ' H2 λσ2 H3=>tc σ2 H3 λb H4=>
    if b=true then tk σ2 H4 λk H5=>tv σ2 H5 λy H6=>∃k',k=kV k'/\H6 l=some (.dK ys)/\ys.length<sizeLine/\N (zar ys k' y) σ2 (upd H6 l (.dK (zar ys k' y)))
    else H4 l=some (.dK ys)/\N ys σ2 H4)
def zi2(wi:TI)(g:TG)(tc:TT)(tk tv:TE)(src:List (Option Nat)):TE:=λσ H Q=>wi σ H (zhs g tc tk tv src σ Q)
section
variable{X:Cx}{kx vx tg iter:Expr}{ifs:List Expr}{scope osc:Scope}{pos:Pos}{N':List Str}{src:List (Option Nat)}{wi:TI}{g:TG}{tc:TT}{tk tv:TE}
theorem zjG(ok:CompOk X.N osc N' src scope)(hsc:X.env.scope=osc)(hc:X.calm=true)(hi:PI X tg iter wi)
 (hg:∀cl C s₀ H₀ fp,PG (zy X N' scope cl C s₀ H₀ fp) tg g) (ht:∀cl C s₀ H₀ fp,PIf (zy X N' scope cl C s₀ H₀ fp) ifs tc) (hk2:∀cl C s₀ H₀ fp,PE (zy X N' scope cl C s₀ H₀ fp) kx tk) (hv2:∀cl C s₀ H₀ fp,PE (zy X N' scope cl C s₀ H₀ fp) vx tv)
 (hs:∀x,foldedSetIterable iter X.env x=pure x:=by intro _;rfl):PE X (.DictComp kx vx [⟨tg,iter,ifs,0⟩] scope pos) (zi2 wi g tc tk tv src):=by
 intro pins s σ H Q I h
 obtain⟨cl,hcl,c1,c2⟩:=zde (scope:=scope) (env:=X.env) λy hy hyf=>I.ok.has y.1 (by
  have z:=ok.frees y hy hyf
  rw[←hsc] at z
  exact z)
 rw[arm_eval_DictComp]
 refine wpAny_comprehension_free (use:=none) rfl hs hcl ok.kind ok.loc (thn (hi pins s σ H _ I h) λv s1 h1=>thn h1 λitv s2 h2=>?_)
 obtain⟨it,fp,tn,J,H2,e,I2,T,st2,f2,q2⟩:=h2
 subst e
 have hlt2:∀b∈fp,b<s2.heap.objs.size:=λb hb=>by
  obtain⟨o,e,_⟩:=T.obj _ _ st2 b hb
  exact Heap.lt_size e
 refine wpAny_newObj_type ?_
 have hl:H2 s2.heap.objs.size=none:=I2.hok.fresh (Nat.le_refl _)
 have I3:Inv X pins σ (upd H2 s2.heap.objs.size (.dK [])) {s2 with heap:=s2.heap.push {cls:= .type "dict",data:= .dict #[]}}:=
  I2.laid (t':=s2.toks) (λb u e=>Heap.get?_push_of_some _ e) (Nat.le_refl _) (zlb s2.heap I2.big)
 obtain⟨W,⟨m0,w0⟩,turn⟩:=q2 _ hl
 generalize hl2:s2.heap.objs.size=l at *
 generalize hs3:({s2 with heap:=s2.heap.push {cls:= .type "dict",data:= .dict #[]}}:Shared)=s3 at *
 have f3:∀b∈fp,zc5 X pins (upd H2 l (.dK [])) b:=λb hb=>⟨by rw[ze (Nat.ne_of_lt (hlt2 b hb))];exact(f2 b hb).1,(f2 b hb).2⟩
 have k3:∀b o,s2.heap.get? b=some o->s3.heap.get? b=some o:=λb o e=>by rw[←hs3];exact Heap.get?_push_of_some _ e
 have hlt3:∀b∈fp,b<s3.heap.objs.size:=λb hb=>by
  obtain⟨o,e,_⟩:=T.obj _ _ st2 b hb
  exact Heap.lt_size (k3 b o e)
 refine wpAny_newFunctionEnv ok.nocell (by intro y hy;simp at hy) (λh₁ hns₁ hsb₁=>?_) ok.kind
 have k4:∀b o,s3.heap.get? b=some o->h₁.get? b=some o:=λb o e=>(hsb₁.2 b (Nat.ne_of_lt (Heap.lt_size e))).trans (Heap.get?_push_of_some _ e)
 have J0:=zdg (tk:=s3.toks+([]:List (Str×Value)).length) I3 f3 hlt3 ok hsc c1 c2 hns₁ k4
 have st4:tn 0 h₁:=T.keep _ _ _ st2 λb hb o e=>k4 b o (k3 b o e)
 generalize hC:s3.heap.objs.size=C at *
 have stat:∀{H':Hp},(∀b∈fp,H' b=none)->∀b∈fp,zc5 (zy X N' scope cl C s3 (upd H2 l (.dK [])) fp) [] H' b:=λ{H'} hn b hb=>
  ⟨hn b hb,(J0.ok.exf b hb).1,J0.ok.exfs b hb, .inl hb,(J0.ok.exf b hb).2,λp hp=>absurd (show p∈([]:List (Addr×Obj))from hp) (by simp)⟩
 have loop:codeAny (model X.prog X.w) X.A (.compLoop (.DictComp kx vx [⟨tg,iter,ifs,0⟩] scope pos) 0 (.ref it) (.ref l) (compEnvC scope cl C X.env))
  (compPost (model X.prog X.w) X.A X.xe none (EP X pins σ Q) (.ref l) C) {s3 with heap:=h₁,toks:=s3.toks+([]:List (Str×Value)).length}:=by
  refine zl8 (λn s'=>∃i ys σ' H',Inv (zy X N' scope cl C s3 (upd H2 l (.dK [])) fp) [] σ' H' s'/\tn i s'.heap/\(∀b∈fp,H' b=none)/\H' l=some (.dK ys)/\W i n ys σ' H') ?_ m0
   ⟨0,[],_,_,J0,st4,λb hb=>(f3 b hb).1,zb,w0⟩
  rintro n s5 ⟨i,ys,σ5,H5,I5,st5,fr5,hl5,w5⟩
  rcases turn i n ys σ5 H5 w5 hl5 with⟨stop,qn⟩|⟨go,N,hN,step⟩
  ·refine thn (T.done (zy X N' scope cl C s3 (upd H2 l (.dK [])) fp) rfl rfl rfl hc i [] s5 σ5 H5 (λ_ _=>False) I5 (stat fr5) st5 stop) λr s6 ⟨hr,I6⟩=>?_
   subst hr
   obtain⟨m,hn,_⟩:=I6.loc
   exact⟨m,hn,λh' hsb=>⟨.ref l,H5,zdn I3 f3 (by rw[←hC];exact Nat.le_refl _) I6 hsb,rfl,qn⟩⟩
  ·refine thn (T.item (zy X N' scope cl C s3 (upd H2 l (.dK [])) fp) rfl rfl rfl hc i [] s5 σ5 H5 (λ_ _=>False) I5 (stat fr5) st5 go) λr s6 ⟨u,hr,h6⟩=>?_
   subst hr
   refine thn h6 λ_ s7 ⟨x,H7,I7,r7,y7,st7,fr7⟩=>?_
   have I7':=I7.pinned (stat fr7) (T.obj _ _ st7)
   refine thn (hg cl C s3 _ fp _ s7 σ5 H7 x u _ I7' r7 (step x H7 y7)) λ_ s8 ⟨σ8,H8,I8,q8⟩=>?_
   refine thn (ht cl C s3 _ fp _ s8 σ8 H8 _ I8 q8) λb s9 ⟨H9,I9,q9⟩=>?_
   have back:∀{s':Shared} {H':Hp},Inv (zy X N' scope cl C s3 (upd H2 l (.dK [])) fp) ([]++zdd fp s7.heap) σ8 H' s'->tn (i+1) s'.heap/\∀b∈fp,H' b=none:=λ{s' H'} I'=>by
    refine⟨T.keep _ _ _ st7 λb hb o e=>(I'.pin (b,o) (List.mem_append_right _ (List.mem_append_right _ (zaf hb e)))).1,λb hb=>?_⟩
    obtain⟨o,e,d⟩:=T.obj _ _ st7 b hb
    exact(I'.pin (b,o) (List.mem_append_right _ (List.mem_append_right _ (zaf hb e)))).2.1
   cases b with
   |false=>
    obtain⟨hl9,n9⟩:=q9
    obtain⟨m',hm,w9⟩:=hN _ _ _ n9
    obtain⟨t9,fr9⟩:=back I9
    exact⟨m',hm,i+1,ys,σ8,H9,I9.unpinned,t9,fr9,hl9,w9⟩
   |true=>
    refine thn (hk2 cl C s3 _ fp _ s9 σ8 H9 _ I9 q9) λkv2 s10 ⟨k',H10,I10,rk10,q10⟩=>thn (hv2 cl C s3 _ fp _ s10 σ8 H10 _ I10 q10) λxv2 s11 ⟨y',H11,I11,r11,k'',ek,hl11,hz,n11⟩=>?_
    subst ek
    obtain⟨m',hm,w11⟩:=hN _ _ _ n11
    obtain⟨z,hd,vs,rel,dd⟩:=ziY I11.hok hl11
    have hz2:vs.length<=sizeLine:=by rw[←rel.length];exact z
    have hl2':(zar ys k'' y').length<=sizeLine:=by have:=zcL ys k'' y';omega
    refine wpAny_dictSet_pairs (zi1 rk10) dd (λh' dd' hs=>?_) hz2
    have he:∃q,h'.get? l=some q:=let⟨q,_,_,hq,_⟩:=dd';⟨q,hq⟩
    have I12:=zel (t':=s11.toks+1) I11 (by rw[hl11];exact True.intro) hs he (zkc hl2' hd (rel.put k'' r11) dd')
    obtain⟨t12,fr12⟩:=back I12
    exact⟨m',hm,i+1,zar ys k'' y',σ8,_,I12.unpinned,t12,fr12,zb,w11⟩
 exact codeAny_compStart_dict loop (T.self _ 0 _ _ _ st4 loop)
theorem zg1(ok:CompOk X.N osc N' src scope)(hsc:X.env.scope=osc)(hc:X.calm=true)(hi:QI X tg iter wi)
 (hg:∀cl C s₀ H₀ fp,QG (zy X N' scope cl C s₀ H₀ fp) tg g) (ht:∀cl C s₀ H₀ fp,QF (zy X N' scope cl C s₀ H₀ fp) ifs tc) (hk2:∀cl C s₀ H₀ fp,QE (zy X N' scope cl C s₀ H₀ fp) kx tk) (hv2:∀cl C s₀ H₀ fp,QE (zy X N' scope cl C s₀ H₀ fp) vx tv)
 (hs:∀x,foldedSetIterable iter X.env x=pure x:=by intro _;rfl):QE X (.DictComp kx vx [⟨tg,iter,ifs,0⟩] scope pos) (zi2 wi g tc tk tv src):=
 ⟨zjG ok hsc hc hi.o (λcl C s₀ H₀ fp=>(hg cl C s₀ H₀ fp).o) (λcl C s₀ H₀ fp=>(ht cl C s₀ H₀ fp).o) (λcl C s₀ H₀ fp=>(hk2 cl C s₀ H₀ fp).o) (λcl C s₀ H₀ fp=>(hv2 cl C s₀ H₀ fp).o) hs⟩
end
theorem zfv{J:It}{n:Nat}{P:Nat->V->Prop}{ok:Hp->Prop}{g:TG}{tc:TT}{tk tv:TE}{src:List (Option Nat)}{σ:St}{H1:Hp}{Q:VK}(wk:Wk J n P ok)(Pv:Addr->Nat->List (Key×V)->St->Hp->Prop)
 (h0:∀l,H1 l=none->Pv l 0 [] (zdk src σ) (upd H1 l (.dK []))) (hok:∀l i ys σ H,H1 l=none->Pv l i ys σ H->ok H)
 (hs:∀l i x ys σ H,H1 l=none->i<n->P i x->Pv l i ys σ H->H l=some (.dK ys)->g x σ H λσ2 H3=>tc σ2 H3 λb H4=>
   if b=true then tk σ2 H4 λk H5=>tv σ2 H5 λy H6=>∃k',k=kV k'/\H6 l=some (.dK ys)/\ys.length<sizeLine/\Pv l (i+1) (zar ys k' y) σ2 (upd H6 l (.dK (zar ys k' y)))else H4 l=some (.dK ys)/\Pv l (i+1) ys σ2 H4)
 (hd:∀l ys σ H,H1 l=none->Pv l n ys σ H->H l=some (.dK ys)->Q (.ref l) H):zhs g tc tk tv src σ Q J H1:=by
 intro l hl
 refine⟨λi m ys σ H=>m=n -i/\i<=n/\Pv l i ys σ H,⟨n,by simp,Nat.zero_le _,h0 l hl⟩,?_⟩
 rintro i m ys σ H ⟨rfl,hi,p⟩ e
 by_cases hlt:i<n
 ·refine .inr ⟨wk.go i H (hok l i ys σ H hl p) hlt,Pv l (i+1),λzs σ' H' q=>⟨n -(i+1),by omega,rfl,hlt,q⟩,λx H' y=>?_⟩
  obtain⟨rfl,px⟩:=wk.yld i H x H' (hok l i ys σ H hl p) hlt y
  exact hs l i x ys σ _ hl hlt px p e
 ·have ei:i=n:=by omega
  subst ei
  exact .inl ⟨wk.stop i H (hok l i ys σ H hl p) (Nat.le_refl _),hd l ys σ H hl p e⟩
end L2
namespace HT
open PySem PySem.Spec PyProof.Rows L2
def RawE(h:Heap)(d:Addr)(ps:List (Value×Value))(ep:Nat):Prop:=∃o es,h.get? d=some o/\o.ExactDict/\o.data= .dict es ep/\es.toList.map (λe=>(e.key,e.val))=ps
theorem RawE.ty{s:Shared}{d:Addr}{ps:List (Value×Value)}{ep:Nat}(x:RawE s.heap d ps ep):s.TypeIs (.ref d) "dict":=let⟨o,_,ho,hc,_⟩:=x;⟨o,ho,hc.1⟩
section
variable{prog:Program}{w:World}{A:Around}{E:Value->Shared->Prop}{s:Shared}{it d:Addr}{i ep:Nat}{ps:List (Value×Value)}
theorem raw_items{R:Value->Shared->Prop}(nsys:(d==sysModules)=false)(x:RawE s.heap d ps ep)(q:R (.ref s.heap.objs.size) {s with heap:=s.heap.push {cls:= .type "dict_items",data:= .fields #[.ref d]}}):
 wpAny (model prog w) A (Builtin.«dict.items» ⟨[.ref d],[]⟩) (λfin s'=>∃v,fin= .done (.ret v)/\R v s') E s:=by
 unfold Builtin.«dict.items»
 refine wpAny_bind ?_
 unfold Builtin.Dict.noArgs
 refine wpAny_bind (wpAny_notOrdered_dict x.ty ?_)
 show wpAny _ _ (pure d) _ _ s
 refine wpAny_pure ?_
 show wpAny _ _ (Builtin.Dict.showsAll d>>=_) _ _ s
 unfold Builtin.Dict.showsAll
 rw[if_neg (by rw[nsys];exact Bool.false_ne_true)]
 refine wpAny_bind (wpAny_pure ?_)
 exact wpAny_bind (wpAny_newObj_type (wpAny_pure ⟨_,rfl,q⟩))
theorem raw_items_iter{v:Addr}{Q:Value->Shared->Prop}(hv:s.heap.IsItemsView v d)(x:RawE s.heap d ps ep)
 (hQ:Q (.ref s.heap.objs.size) {s with heap:=s.heap.push {cls:= .type "dict_itemiterator",data:= .fields #[.none, .bool false, .ref d, .int 0 0, .int ps.length 0, .int ep 0, .none, .none]}}):
 wpAny (model prog w) A (pyIter (.ref v)) Q E s:=by
 obtain⟨ov,hov,hcv,hdv⟩:=id hv
 obtain⟨o,es,ho,hc,hdat,hp⟩:=id x
 refine wpAny_pyIter_slot hv.typeIs PySem.F.slot_dict_items_iter (wpAny_call_entry PySem.F.slot_dict_items_iter hv.typeIs PySem.F.entry_dict_items_iter ?_ (PySem.F.args_dict_items_iter_1 _))
 unfold Builtin.«dict_items.__iter__»
 refine wpAny_bind (wpAny_pure ?_)
 refine wpAny_bind ?_
 unfold Builtin.Dict_items.dictOf
 refine wpAny_bind (wpAny_field hov hdv (x:= .ref d) rfl (wpAny_pure ?_))
 refine wpAny_bind ?_
 unfold Builtin.Dict_items.newIterator
 refine wpAny_bind (wpAny_dictEntries ho hdat ?_)
 refine wpAny_bind (wpAny_dictEpoch ho hdat ?_)
 have hsz:es.size=ps.length:=by rw[←hp];simp
 have hown:Builtin.Dict_items.ownsTuple "dict_itemiterator"=true:=by decide
 simp only[hown,if_true]
 refine wpAny_newObj_type (wpAny_pure ⟨_,rfl,"dict_itemiterator",_,⟨_,Heap.get?_push_size _ rfl,rfl⟩,PySem.F.slot_dict_itemiterator_next.lookup,?_⟩)
  (by simp only[sizeOk,Builtin.Dict_items.ownedTupleFields,List.size_toArray,List.length_append,List.length_cons,List.length_nil,sizeLine_eq];omega)
 simpa[rawInt,hsz,Builtin.Dict_items.ownedTupleFields] using hQ
theorem raw_items_next{it d:Addr}{i ep:Nat}{ps:List (Value×Value)}{key v ok ov:Value}{Q:Option Value->Shared->Prop}(hit:IsItemIter s.heap it d i ps.length ep ok ov)
 (hm:RawE s.heap d ps ep) (hx:ps[i]?=some (key,v))
 (hQ:∀h',IsItemIterOut h' it d (i+1) ps.length ep key v s.heap.objs.size->
   h'.get? s.heap.objs.size=some {cls:= .type "tuple",data:= .seq #[key,v]}->h'.objs.size=s.heap.objs.size+1->
   (∀b o,b≠it->s.heap.get? b=some o->h'.get? b=some o)->Q (some (.ref s.heap.objs.size)) {s with heap:=h'}):
 wpAny (model prog w) A (pyNext (.ref it)) Q E s:=by
 obtain⟨hp,g,dr,tk,os⟩:=s
 obtain⟨od,es,hod,hcd,hdd,hpr⟩:=id hm
 have hT:Shared.TypeIs ⟨hp,g,dr,tk,os⟩ (.ref it) "dict_itemiterator":=⟨_,hit,rfl⟩
 unfold pyNext
 refine wpAny_bind (wpAny_attempt (wpAny_callSpecial?_slot (name:=Str.ofString "__next__") hT PySem.F.slot_dict_itemiterator_next
  (wpAny_call_entry PySem.F.slot_dict_itemiterator_next hT PySem.F.entry_dict_itemiterator_next ?_ (PySem.F.args_dict_itemiterator_next_1 _))))
 refine wpAny_bind (wpAny_pure ?_)
 refine wpAny_bind ?_
 refine wpAny_bind ?_
 first|refine wpAny_bind (wpAny_typeNameOfWhole_itemiter hT (wpAny_pure ?_))|refine wpAny_bind (wpAny_typeNameOf_itemiter hT (wpAny_pure ?_))
 refine wpAny_bind (wpAny_fieldsOf hit rfl ?_)
 have hown:Builtin.Dict_items.ownsTuple "dict_itemiterator"=true:=by decide
 simp only[hown,if_true]
 show wpAny _ _ (if(Value.ref d==Value.none)=true then _ else _) _ _ _
 rw[if_neg (show¬((Value.ref d==Value.none)=true)from Bool.false_ne_true)]
 refine wpAny_bind (wpAny_pure ?_)
 refine wpAny_bind (wpAny_dictEntries hod hdd ?_)
 have hsz:es.size=ps.length:=by rw[←hpr];simp
 rw[if_neg (by rw[hsz];simp)]
 refine wpAny_bind (wpAny_pure ?_)
 refine wpAny_bind (wpAny_dictEpoch hod hdd ?_)
 rw[if_neg (by simp)]
 refine wpAny_pure ?_
 have hlt:i<ps.length:=by
  rcases Nat.lt_or_ge i ps.length with h|h
  ·exact h
  ·simp[List.getElem?_eq_none h] at hx
 have hlt':i<es.size:=by rw[hsz];exact hlt
 have hkv:es[i].key=key/\es[i].val=v:=by
  have e1:ps[i]?=some (es[i].key,es[i].val):=by rw[←hpr];simp[hlt']
  rw[e1] at hx
  have:=Option.some.inj hx
  exact⟨congrArg Prod.fst this,congrArg Prod.snd this⟩
 obtain⟨hkey,hval⟩:=hkv
 simp only[show¬((i:Int)<0)from by omega,if_false,Int.toNat_natCast,Array.getElem?_eq_getElem hlt']
 refine wpAny_bind ?_
 first|refine wpAny_bind (wpAny_typeNameOfWhole_itemiter hT (wpAny_pure ?_))|refine wpAny_bind (wpAny_typeNameOf_itemiter hT (wpAny_pure ?_))
 refine wpAny_bind (wpAny_isOneOf_itemiter hT ?_)
 show wpAny _ _ (setField (.ref it) 3 (rawInt ((i:Int)+1))>>=_) _ _ ⟨hp,g,dr,tk,os⟩
 refine wpAny_bind (wpAny_setField_rec hit (by simp) λh₁ he₁ hs₁=>?_)
 replace hs₁:Heap.SameBut it hp h₁:=hs₁
 replace he₁:IsItemIter h₁ it d (i+1) ps.length ep ok ov:=by
  have e:((i+1:Nat):Int)=(i:Int)+1:=by omega
  unfold IsItemIter;rw[e];simpa[rawInt] using he₁
 have hT₁:Shared.TypeIs ⟨h₁,g,dr,tk,os⟩ (.ref it) "dict_itemiterator":=⟨_,he₁,rfl⟩
 refine wpAny_bind (wpAny_holding ?_)
 refine wpAny_bind (wpAny_isOneOf_itemiter hT₁ ?_)
 refine wpAny_bind (wpAny_isOneOf_itemiter hT₁ ?_)
 show wpAny _ _ (Builtin.Dict_items.pairFromOwner (.ref it) 6 es[i].key es[i].val) _ _ ⟨h₁,g,dr,tk,os⟩
 unfold Builtin.Dict_items.pairFromOwner
 refine wpAny_bind (wpAny_newTuple ?_)
 have he₂:IsItemIter (h₁.push {cls:= .type "tuple",data:= .seq #[es[i].key,es[i].val]}) it d (i+1) ps.length ep ok ov:=Heap.get?_push_of_some _ he₁
 generalize hh₂:h₁.push {cls:= .type "tuple",data:= .seq #[es[i].key,es[i].val]}=h₂ at he₂
 have hz₁:h₁.objs.size=hp.objs.size:=hs₁.1
 have hil:it<hp.objs.size:=Heap.lt_size hit
 have ht₂:h₂.get? hp.objs.size=some {cls:= .type "tuple",data:= .seq #[es[i].key,es[i].val]}:=by rw[←hh₂,←hz₁];exact Heap.get?_push_size _ rfl
 have hz₂:h₂.objs.size=hp.objs.size+1:=by rw[←hh₂,Heap.size_push,hz₁]
 have hk₂:∀b o,b≠it->hp.get? b=some o->h₂.get? b=some o:=λb o hb e=>by rw[←hh₂];exact Heap.get?_push_of_some _ (hs₁.extBut b o hb e)
 show wpAny _ _ (Builtin.Dict_items.ownedTupleIsFree (.ref it)>>=_) _ _ ⟨h₂,g,dr,tk,os⟩
 rw[hz₁]
 clear hh₂ he₁ hs₁ hT₁ hz₁ h₁
 refine wpAny_bind ?_
 unfold Builtin.Dict_items.ownedTupleIsFree
 refine wpAny_bind (wpAny_field he₂ rfl (x:= .none) rfl (wpAny_pure ?_))
 simp only[if_true]
 refine wpAny_bind (wpAny_field he₂ rfl (x:=ok) rfl ?_)
 refine wpAny_bind (wpAny_field he₂ rfl (x:=ov) rfl ?_)
 refine wpAny_bind (wpAny_setField_rec he₂ (by simp) λh₃ he₃ hs₃=>?_)
 replace hs₃:Heap.SameBut it h₂ h₃:=hs₃
 replace he₃:IsItemIter h₃ it d (i+1) ps.length ep es[i].key ov:=he₃
 refine wpAny_bind (wpAny_setField_rec he₃ (by simp) λh₄ he₄ hs₄=>?_)
 replace hs₄:Heap.SameBut it h₃ h₄:=hs₄
 replace he₄:IsItemIter h₄ it d (i+1) ps.length ep es[i].key es[i].val:=he₄
 refine wpAny_bind (wpAny_setField_rec he₄ (by simp) λh₅ he₅ hs₅=>?_)
 replace hs₅:Heap.SameBut it h₄ h₅:=hs₅
 replace he₅:IsItemIterOut h₅ it d (i+1) ps.length ep es[i].key es[i].val hp.objs.size:=he₅
 refine wpAny_bind (wpAny_setField_rec he₅ (by simp) λh₆ he₆ hs₆=>?_)
 replace hs₆:Heap.SameBut it h₅ h₆:=hs₆
 replace he₆:IsItemIterOut h₆ it d (i+1) ps.length ep es[i].key es[i].val hp.objs.size:=he₆
 refine wpAny_bind (wpAny_letGo (wpAny_pure (wpAny_pure ⟨_,rfl,wpAny_pure (hQ h₆ (hkey▸hval▸he₆) ?_ ?_ ?_)⟩)))
 ·rw[←hval,←hkey];exact hs₆.extBut _ _ (Nat.ne_of_gt hil) (hs₅.extBut _ _ (Nat.ne_of_gt hil) (hs₄.extBut _ _ (Nat.ne_of_gt hil) (hs₃.extBut _ _ (Nat.ne_of_gt hil) ht₂)))
 ·show h₆.objs.size=hp.objs.size+1
  rw[hs₆.1,hs₅.1,hs₄.1,hs₃.1,hz₂]
 ·exact λb o hb e=>hs₆.extBut b o hb (hs₅.extBut b o hb (hs₄.extBut b o hb (hs₃.extBut b o hb (hk₂ b o hb e))))
theorem raw_items_end{it d:Addr}{i ep:Nat}{ps:List (Value×Value)}{ok ov:Value}{Q:Option Value->Shared->Prop}(hh:A.handled=none)(hit:IsItemIter s.heap it d i ps.length ep ok ov)
 (hm:RawE s.heap d ps ep) (hx:ps[i]?=none)
 (hQ:∀h',Heap.ExtBut it s.heap h'->Q none {s with heap:=h'}):wpAny (model prog w) A (pyNext (.ref it)) Q E s:=by
 obtain⟨od,es,hod,hcd,hdd,hpr⟩:=id hm
 have hT:s.TypeIs (.ref it) "dict_itemiterator":=⟨_,hit,rfl⟩
 unfold pyNext
 refine wpAny_bind (wpAny_attempt (wpAny_callSpecial?_slot (name:=Str.ofString "__next__") hT PySem.F.slot_dict_itemiterator_next
  (wpAny_call_entry PySem.F.slot_dict_itemiterator_next hT PySem.F.entry_dict_itemiterator_next ?_ (PySem.F.args_dict_itemiterator_next_1 _))))
 refine wpAny_bind (wpAny_pure ?_)
 refine wpAny_bind ?_
 refine wpAny_bind ?_
 first|refine wpAny_bind (wpAny_typeNameOfWhole_itemiter hT (wpAny_pure ?_))|refine wpAny_bind (wpAny_typeNameOf_itemiter hT (wpAny_pure ?_))
 refine wpAny_bind (wpAny_fieldsOf hit rfl ?_)
 have hown:Builtin.Dict_items.ownsTuple "dict_itemiterator"=true:=by decide
 simp only[hown,if_true]
 show wpAny _ _ (if(Value.ref d==Value.none)=true then _ else _) _ _ s
 rw[if_neg (show¬((Value.ref d==Value.none)=true)from Bool.false_ne_true)]
 refine wpAny_bind (wpAny_pure ?_)
 refine wpAny_bind (wpAny_dictEntries hod hdd ?_)
 have hsz:es.size=ps.length:=by rw[←hpr];simp
 rw[if_neg (by rw[hsz];simp)]
 refine wpAny_bind (wpAny_pure ?_)
 refine wpAny_bind (wpAny_dictEpoch hod hdd ?_)
 rw[if_neg (by simp)]
 refine wpAny_pure ?_
 have hge:es.size<=i:=by rw[hsz];simpa using hx
 simp only[show¬((i:Int)<0)from by omega,if_false,Int.toNat_natCast,Array.getElem?_eq_none hge]
 refine wpAny_bind ?_
 first|refine wpAny_bind (wpAny_typeNameOfWhole_itemiter hT (wpAny_pure ?_))|refine wpAny_bind (wpAny_typeNameOf_itemiter hT (wpAny_pure ?_))
 show wpAny _ _ (setField (.ref it) 2 .none>>=_) _ _ s
 refine wpAny_bind (wpAny_setField hit rfl (by simp) ?_)
 show wpAny _ _ (newExc (.type "StopIteration") []>>=_) _ _ _
 refine wpAny_bind ?_
 simp only[newExc,newTuple]
 refine wpAny_bind (wpAny_newObj_type ?_ (by size_fits))
 refine wpAny_bind (m:=firstArgMember _ _) (wpAny_of_eq (a:=Value.none) (by first|rfl|(simp only[firstArgMember];rfl)) ?_)
 refine wpAny_newObj_type ?_ (by size_fits)
 simp only[raiseNew]
 refine wpAny_bind (wpAny_handled ?_)
 rw[show A.in1.handled=none from hh]
 refine wpAny_bind (wpAny_pure (wpAny_throw ?_))
 refine wpAny_bind (wpAny_isInstance (T:="StopIteration") (b:=true) ⟨_,Heap.get?_push_size _ rfl,rfl⟩ isSubtype_stop ?_)
 exact wpAny_pure (hQ _ (((Heap.SameBut.update ..).extBut.push _).push _))
end
end HT
namespace L2
open PySem PySem.Spec PyProof.Rows
def Iti(d:Addr)(o:Obj)(u:HO)(ks:List (V×V)):It:=⟨λi H=>i<ks.length/\H d=some (.frz o u),λi H x H'=>∃T p,ks[i]?=some p/\x= .ref T/\H T=none/\H'=upd H T (.tup [p.1,p.2]),λi H=>ks.length<=i/\H d=some (.frz o u)⟩
theorem zim{P:Program}{w:World}{K:PySem.W.Frag}{elts:List Expr}{x1}{pos:Pos}(d it:Addr)(hne:d≠it)(o:Obj)(u:HO)(vs:List (V×V))(ps:List (Value×Value))(ep:Nat)(es:Array DictEntry)(ex:o.ExactDict)(dat:o.data= .dict es ep)(hes:es.toList.map (λe=>(e.key,e.val))=ps)(rel:∀(i:Nat) (v:V×V),vs[i]?=some v->∃q,ps[i]?=some q/\RelV v.1 q.1/\RelV v.2 q.2)(hl:vs.length=ps.length):
 Turn P w K (.Tuple elts x1 pos) (Iti d o u vs) [it] it (λi h=>i<=ps.length/\∃ok ov,IsItemIter h it d i ps.length ep ok ov) where
 mem:=by simp
 obj:=λi h st b hb=>by
  obtain⟨_,ok,ov,e⟩:=st
  have:b=it:=by simpa using hb
  subst this
  exact⟨_,e,λv z=>nomatch z⟩
 keep:=λi h h' st k=>⟨st.1,let⟨ok,ov,e⟩:=st.2;⟨ok,ov,k it (by simp) _ e⟩⟩
 item:=by
  intro X hP hw hK hc i pins s σ H E I hf st hg
  subst hP hw hK
  have hi:i<vs.length:=hg.1
  have raw:HT.RawE s.heap d ps ep:=⟨o,es,((show ObjOk X.prog X.w H s.heap d (.frz o u)from I.hok d _ hg.2)).1,ex,dat,hes⟩
  obtain⟨q,hq,rk,rv⟩:=rel i vs[i] (by simp[hi])
  obtain⟨f0,f1,f2,f3,f4,f5⟩:=hf it (by simp)
  obtain⟨_,ok,ov,hit⟩:=st
  refine HT.raw_items_next hit raw hq λh' ho ht hsz hk=>⟨.ref s.heap.objs.size,rfl,wpAny_letOwnedTupleGo_items ho λh2 hi2 sb=>?_⟩
  have itlt:it<s.heap.objs.size:=Heap.lt_size hit
  have hT:H s.heap.objs.size=none:=I.hok.fresh (Nat.le_refl _)
  have I1:Inv X pins σ (upd H s.heap.objs.size (.tup [(vs[i]).1,(vs[i]).2])) {s with heap:=s.heap.push {cls:= .type "tuple",data:= .seq #[q.1,q.2]},toks:=s.toks}:=
   I.laid (t':=s.toks) (λb o e=>Heap.get?_push_of_some _ e) (Nat.le_refl _) ⟨few rfl,[q.1,q.2], .cons rk (.cons rv .nil),⟨_,Heap.get?_push_size _ rfl,rfl,_,rfl⟩,NoDict.new rfl (Heap.get?_push_size _ rfl)⟩
  have ne:it≠s.heap.objs.size:=Nat.ne_of_lt itlt
  have kk:∀b o,b≠it->(s.heap.push {cls:= .type "tuple",data:= .seq #[q.1,q.2]}).get? b=some o->h2.get? b=some o:=λb o' hb e=>by
   refine(sb.2 b hb).trans ?_
   by_cases z:b=s.heap.objs.size
   ·rw[z] at e⊢
    rw[Heap.get?_push_size _ rfl] at e
    rw[←e];exact ht
   ·exact hk b o' hb (by rw[Heap.get?_push_ne _ _ _ z] at e;exact e)
  have I2:=I1.turned (t':=s.toks) (h':=h2) kk (by rw[ze ne];exact f0) f1 f3 f4 f5
  refine⟨.ref s.heap.objs.size,_,I2,rfl,⟨_,vs[i],by simp[hi],rfl,hT,rfl⟩,⟨by omega,_,_,hi2⟩,λb hb=>?_⟩
  have:b=it:=by simpa using hb
  subst this
  rw[ze ne];exact f0
 done:=by
   intro X hP hw hK hc i pins s σ H E I hf st hg
   subst hP hw hK
   have hi:vs.length<=i:=hg.1
   have raw:HT.RawE s.heap d ps ep:=⟨o,es,((show ObjOk X.prog X.w H s.heap d (.frz o u)from I.hok d _ hg.2)).1,ex,dat,hes⟩
   obtain⟨hle,ok,ov,hit⟩:=st
   obtain⟨f0,f1,f2,f3,f4,f5⟩:=hf it (by simp)
   exact HT.raw_items_end (I.ok.hd hc) hit raw (List.getElem?_eq_none (by omega)) λh' eb=>⟨rfl,I.turned (t':=s.toks) (λb o hb e=>eb b o hb e) f0 f1 f3 f4 f5⟩
 self:=λA i s Q E st h=>by
  obtain⟨_,ok,ov,hit⟩:=st
  exact PySem.W.kcp_self hit h
def zo9(tl:TE):TI:=λσ H R=>tl σ H λx H1=>∃d kvs,x= .ref d/\H1 d=some (.dT kvs)/\∀(o:Obj) (bs:List Addr),zo0 H1 bs kvs->(kvs.map (·.1)).Nodup->R (Iti d o (.dT kvs) ((bs.zip kvs).map λp=>(V.ref p.1,p.2.2))) (upd H1 d (.frz o (.dT kvs)))
theorem zj7{X:Cx}{o:Expr}{to:TE}{elts:List Expr}{k:Nat}{pos2 apos cpos:Pos}(ho:QE X o to)(hbase:attributeBase o "items" X.env (eval o X.env)=eval o X.env:=by rfl)(hline:(apos.endLine==cpos.line)=true:=by rfl):QI X (.Tuple elts k pos2) (.Call (.Attribute o "items" apos) [] [] cpos) (zo9 to):=⟨by
 intro pins s σ H R I h
 refine wpAny_Call_method0_late hbase hline (thn (ho.o pins s σ H _ I h) λv s1 ⟨x,H1,I1,r1,q1⟩=>?_)
 obtain⟨d,kvs,rfl,e,q⟩:=q1
 cases r1
 obtain⟨_,nsys,zs,hp,ob,es,ep,g,ex,dat,hes,hnd⟩:=(show ObjOk X.prog X.w H1 s1.heap d (.dT kvs)from I1.hok d _ e)
 obtain⟨hll,hget⟩:=zdm hp
 have ek:zs.map (·.1)=kvs.map (·.1):=by
  apply List.ext_getElem?
  intro i
  rw[List.getElem?_map,List.getElem?_map]
  rcases Nat.lt_or_ge i kvs.length with h|h
  ·have h':i<zs.length:=by omega
   have:=(hget i kvs[i] zs[i] (by simp[h]) (by simp[h'])).1
   simp[h,h',this]
  ·rw[List.getElem?_eq_none h,List.getElem?_eq_none (by omega)];rfl
 have nd':(kvs.map (·.1)).Nodup:=by rw[←ek];exact hnd
 have ety:s1.TypeIs (.ref d) "dict":=⟨ob,g,ex.1⟩
 have hpr:es.toList.map (λe=>(e.key,e.val))=zs.map λq=>(Value.ref q.2.1,q.2.2):=by rw[hes,List.map_map];rfl
 have raw:HT.RawE s1.heap d (zs.map λq=>(Value.ref q.2.1,q.2.2)) ep:=⟨ob,es,g,ex,dat,hpr⟩
 have dlt:d<s1.heap.objs.size:=Heap.lt_size g
 refine⟨"dict","dict.items",PySem.F.plainAttrs_dict,PySem.F.slot_dict_items,PySem.F.type_dict_items,ety,λa z=>?_,Calls.callWith_builtin rfl (PySem.evalArgs_none ?_)⟩
 ·cases z;exact⟨ob,g,ex.2.1⟩
 refine wpAny_call_entry PySem.F.slot_dict_items ety PySem.F.entry_dict_items (HT.raw_items nsys raw ?_) (PySem.F.args_dict_items_1 _)
 have hv:Heap.IsItemsView (s1.heap.push {cls:= .type "dict_items",data:= .fields #[.ref d]}) s1.heap.objs.size d:=⟨_,Heap.get?_push_size _ rfl,rfl,rfl⟩
 have raw2:HT.RawE (s1.heap.push {cls:= .type "dict_items",data:= .fields #[.ref d]}) d (zs.map λq=>(Value.ref q.2.1,q.2.2)) ep:=⟨ob,es,Heap.get?_push_of_some _ g,ex,dat,hpr⟩
 have I2:Inv X pins σ (upd H1 d (.frz ob (.dT kvs))) {s1 with heap:=s1.heap.push {cls:= .type "dict_items",data:= .fields #[.ref d]},toks:=s1.toks}:=(I1.frz e g).kept (t':=s1.toks) λb o e=>Heap.get?_push_of_some _ e
 refine HT.raw_items_iter (s:={s1 with heap:=s1.heap.push {cls:= .type "dict_items",data:= .fields #[.ref d]}}) hv raw2 ?_
 have itn:(s1.heap.push {cls:= .type "dict_items",data:= .fields #[.ref d]}).objs.size=s1.heap.objs.size+1:=Heap.size_push ..
 have zl:(zs.map λq=>(Value.ref q.2.1,q.2.2)).length=zs.length:=List.length_map _
 refine⟨_,[(s1.heap.push {cls:= .type "dict_items",data:= .fields #[.ref d]}).objs.size],_,_,upd H1 d (.frz ob (.dT kvs)),rfl,I2.kept (t':=s1.toks) λb o e=>Heap.get?_push_of_some _ e,zim d _ (by rw[itn];exact Nat.ne_of_lt (Nat.lt_succ_of_lt dlt)) ob (.dT kvs) (((zs.map λq=>q.2.1).zip kvs).map λp=>(V.ref p.1,p.2.2)) (zs.map λq=>(Value.ref q.2.1,q.2.2)) ep es ex dat hpr (λi v hv=>?_) ?_,⟨Nat.zero_le _, .none, .none,Heap.get?_push_size _ rfl⟩,λb hb=>?_,q ob (zs.map λq=>q.2.1) ⟨by rw[List.length_map];omega,λi b kv e1 e2=>?_⟩ nd'⟩
 ·rw[List.getElem?_map] at hv⊢
  cases hz:((zs.map λq=>q.2.1).zip kvs)[i]? with
  |none=>rw[hz] at hv;cases hv
  |some p=>
   rw[hz] at hv;cases hv
   obtain⟨h1,h2⟩:=List.getElem?_zip_eq_some.mp hz
   rw[List.getElem?_map] at h1
   cases h3:zs[i]? with
   |none=>rw[h3] at h1;cases h1
   |some q=>
    rw[h3] at h1
    have h1:q.2.1=p.1:=Option.some.inj h1
    refine⟨_,rfl,?_,(hget i p.2 q h2 h3).2.2⟩
    show Value.ref q.2.1=Value.ref p.1
    rw[h1]
 ·rw[List.length_map,List.length_map,List.length_zip,List.length_map,hll,Nat.min_self]
 ·have:b=(s1.heap.push {cls:= .type "dict_items",data:= .fields #[.ref d]}).objs.size:=by simpa using hb
  subst this
  refine I2.fpOk (Nat.le_refl _) ?_
  rw[ze (by rw[itn];exact Nat.ne_of_gt (Nat.lt_succ_of_lt dlt))]
  exact I1.hok.fresh (by rw[itn];exact Nat.le_succ _)
 ·rw[List.getElem?_map] at e1
  cases hz:zs[i]? with
  |none=>rw[hz] at e1;cases e1
  |some z=>
   rw[hz] at e1;cases e1
   exact(hget i kv z e2 hz).2.1⟩
end L2
namespace HT
open PySem PySem.Spec PyProof.Rows L2
section
variable{prog:Program}{w:World}{A:Around}{E:Value->Shared->Prop}{s:Shared}
end
section
variable{prog:Program}{w:World}{A:Around}{E:Value->Shared->Prop}{s:Shared}{K:Type}[DecidableEq K]{knd:KeyKind prog w K}
end
end HT
namespace L2
open PySem PySem.Spec PyProof.Rows
section
variable{X:Cx}
inductive TwosAt(H:Hp):List Addr->List Str->List V->Prop
 |nil:TwosAt H [] [] []
 |cons {t:Addr} {x:Str} {y:V} {ts:List Addr} {hs:List Str} {ys:List V}:H t=some (.tup [.str x,y])->TwosAt H ts hs ys->TwosAt H (t::ts) (x::hs) (y::ys)
end
end L2
namespace L2
open PySem PySem.Spec PySem.W PyProof.Rows
theorem zh7{α:Type}{lt:α->α->Bool}(d0:α)(tri:∀{a b},a≠b->lt a b=false->lt b a=true)(tr:∀{a b c},lt a b=true->lt b c=true->lt a c=true)(asy:∀{a b},lt a b=true->lt b a=false){ps:List α}(hn:ps.Nodup):RW.Strict ps.length (λi j=>lt (ps.getD i d0) (ps.getD j d0)) where
 tot:=λi j hi hj hij e=>tri (λz=>hij ((List.getElem_inj hn (h₀:=hi) (h₁:=hj)).mp (by simpa[hi,hj] using z))) e
 tr:=λi j k _ _ _ h1 h2=>tr h1 h2
 asy:=λi j _ _ h=>asy h
theorem zj8{α:Type}{d0:α}{ps:List α}:(List.range ps.length).map (λi=>ps.getD i d0)=ps:=by
 apply List.ext_getElem?
 intro i
 rw[List.getElem?_map]
 rcases Nat.lt_or_ge i ps.length with h|h
 ·rw[List.getElem?_range h]
  simp[h]
 ·rw[List.getElem?_eq_none (by simpa using h),List.getElem?_eq_none h];rfl
def AtG{α:Type}(Oa:Hp->Addr->α->Prop)(H:Hp)(vs:List V)(ps:List α):Prop:=vs.length=ps.length/\∀(i:Nat) (v:V) (p:α),vs[i]?=some v->ps[i]?=some p->∃b,v= .ref b/\Oa H b p
def zks{α:Type}(K:PySem.W.Frag)(lt:α->α->Bool)(Oa:Hp->Addr->α->Prop):List V->Hp->VK->Prop:=λxs H Q=>∃(p:Addr) (vs:List V) (ps:List α),xs=[.ref p]/\(SqL K H p vs\/SqT K H p vs)/\AtG Oa H vs ps/\ps.length<64/\
 ∀(ps':List α) (vs':List V) l,ps'.Perm ps->(ps.Nodup->ps'.Pairwise (λa b=>lt a b=true))->AtG Oa H vs' ps'->H l=none->Q (.ref l) (upd H l (.lst vs'))
section
variable{X:Cx}{K:PySem.W.Frag}
theorem zgp{α:Type}{lt:α->α->Bool}{Oa:Hp->Addr->α->Prop}{κ:SortKind}(d0:α)(tri:∀{a b},a≠b->lt a b=false->lt b a=true)(tr:∀{a b c},lt a b=true->lt b c=true->lt a c=true)(asy:∀{a b},lt a b=true->lt b a=false)
 (raw:∀(s s1:Shared) (pins:List (Addr×Obj)) (σ:St) (H:Hp),Inv X pins σ H s->(∀b o,s.heap.get? b=some o->s1.heap.get? b=some o)->
   (∀(its:List Value) (ps:List α),its.length=ps.length->0<ps.length->(∀(i:Nat) (u:Value) (q:α),its[i]?=some u->ps[i]?=some q->∃b,u= .ref b/\Oa H b q)->∀C:SortKind->Shared->Prop,C κ s1->wpAny (model X.prog X.w) X.A.in1.in1 (keyKind' its.toArray) C (λ_ _=>False) s1)/\
   ∀(b b':Addr) (p q:α) (C:Bool->Shared->Prop) (E:Value->Shared->Prop),Oa H b p->Oa H b' q->C (lt p q) s1->wpAny (model X.prog X.w) X.A.in1.in1 (keyLt' κ (.ref b) (.ref b')) C E s1):CallR X (.builtin "sorted") (zks X.K lt Oa):=by
 intro pins s σ H xs us Q I r h
 obtain⟨p,vs,ps,rfl,hq,ht,h64,q⟩:=h
 obtain⟨u,rfl,ru⟩:=zb6 r
 cases ru
 have key:∀{its:List Value} {T:String} {o:Obj} {n:Nat},T="list"\/T="tuple"->s.heap.get? p=some o->o.cls= .type T->o.data= .seq its.toArray n->Vals vs its->wpAny (model X.prog X.w) X.A (call (.builtin "sorted") [.ref p]) (EP X pins σ Q) X.xe s:=by
  intro its T o n hT ho hc hd rv
  have hl:=rv.length
  have hlp:its.length=ps.length:=by rw[←hl];exact ht.1
  have keyA:∀(i:Nat) (u:Value) (q:α),its[i]?=some u->ps[i]?=some q->∃b,u= .ref b/\Oa H b q:=λi u q e1 e2=>by
   have hi:i<vs.length:=by
    rcases Nat.lt_or_ge i vs.length with z|z
    ·exact z
    ·rw[List.getElem?_eq_none (by omega)] at e1;cases e1
   obtain⟨b,e3,hb⟩:=ht.2 i vs[i] q (by simp[hi]) e2
   obtain⟨u',hu',ru'⟩:=rv.get (i:=i) (x:=vs[i]) (by simp[hi])
   rw[e1] at hu'
   cases hu'
   rw[e3] at ru'
   cases ru'
   exact⟨b,rfl,hb⟩
  refine zgP (A:=X.A) (G:=λp=>RW.PermN ps.length p/\(RW.Strict ps.length (λi j=>lt (ps.getD i d0) (ps.getD j d0))->RW.Sor (λi j=>lt (ps.getD i d0) (ps.getD j d0)) p ps.length)) (κ:=κ) hT ho hc hd (by omega) (λh2 s1 k1=>?_) (λD out h' c ho' kp hD gD=>?_)
  ·obtain ⟨rk,rl⟩:=raw s s1 pins σ H I k1
   refine⟨rk its ps hlp (by omega) keyA,?_⟩
   rw[hlp]
   refine RW.OkT.wp (N:=ps.length) (lt:=λi j=>lt (ps.getD i d0) (ps.getD j d0)) (I:=λs'=>s'=s1) (λi j C s' hi hj e hC=>?_) (λp s' hp e=>⟨e,hp⟩) rfl (RW.sort_any (by omega))
   subst e
   have gi:∀i,i<ps.length->∃b,its.getD i Value.none= .ref b/\Oa H b (ps.getD i d0):=λi hi=>by
    have hi':i<its.length:=by omega
    refine keyA i _ _ ?_ ?_
    ·simp[hi']
    ·simp[hi]
   obtain⟨b,e1,o1⟩:=gi i hi
   obtain⟨b',e2,o2⟩:=gi j hj
   show wpAny _ _ (keyLt' κ (its.getD i Value.none) (its.getD j Value.none)) _ _ _
   rw[e1,e2]
   exact rl b b' _ _ _ _ o1 o2 (hC s' rfl)
  ·have nD:H D=none:=I.hok.fresh hD
   obtain⟨ps',hperm,hpw,hlen,hout⟩:∃ps':List α,ps'.Perm ps/\(ps.Nodup->ps'.Pairwise (λa b=>lt a b=true))/\out.length=ps'.length/\∀(i:Nat) (u:Value) (q:α),out[i]?=some u->ps'[i]?=some q->∃b,u= .ref b/\Oa H b q:=by
    rcases ho' with⟨hlt,rfl⟩|⟨p,hp,⟨hP,hS⟩,rfl⟩
    ·refine ⟨ps, .refl _,λ_=>?_,hlp,keyA⟩
     match ps,(show ps.length<2 by omega)with
     |[],_=>exact .nil
     |[a],_=>exact List.pairwise_singleton _ _
    ·refine ⟨p.toList.map (λi=>ps.getD i d0),?_,λnd=>?_,by simp,λi u q e1 e2=>?_⟩
     ·have h1:=hP.map (λi=>ps.getD i d0)
      rwa[zj8] at h1
     ·have hs:=hS (zh7 d0 tri tr asy nd)
      have hz:=hP.size
      rw[List.pairwise_iff_getElem]
      intro i j hi hj hij
      have hi':i<p.size:=by simpa using hi
      have hj':j<p.size:=by simpa using hj
      have h:=hs i j hij (by omega)
      rw[RW.gd_get hi',RW.gd_get hj'] at h
      simpa using h
     ·rw[List.getElem?_map] at e1 e2
      cases e3:p.toList[i]? with
      |none=>rw[e3] at e1;cases e1
      |some j=>
       rw[e3] at e1 e2
       have hj:j<ps.length:=by
        have:j∈p.toList:=List.mem_of_getElem? e3
        have:=(hP.mem_iff (a:=j)).mp this
        simpa using this
       have hj':j<its.length:=by omega
       refine keyA j u q ?_ ?_
       ·rw[←e1];simp[hj']
       ·rw[←e2];simp[hj]
   let vs':List V:=out.map λu=>match u with| .ref b=>V.ref b|_=>V.non
   have hv:∀(i:Nat) (q:α),ps'[i]?=some q->∃b,out[i]?=some (.ref b)/\vs'[i]?=some (.ref b)/\Oa H b q:=λi q e=>by
    have hi:i<out.length:=by
     rcases Nat.lt_or_ge i ps'.length with z|z
     ·omega
     ·rw[List.getElem?_eq_none z] at e;cases e
    obtain⟨b,e1,hb⟩:=hout i out[i] q (by simp[hi]) e
    exact⟨b,by rw[List.getElem?_eq_getElem hi,e1],by show(out.map _)[i]?=_;rw[List.getElem?_map,List.getElem?_eq_getElem hi,e1];rfl,hb⟩
   have hlv:vs'.length=out.length:=by show(out.map _).length=_;rw[List.length_map]
   have hpl:ps'.length<64:=by rw[hperm.length_eq];omega
   have T':AtG Oa H vs' ps':=⟨by omega,λi v q e1 e2=>by
    obtain⟨b,_,e3,hb⟩:=hv i q e2
    rw[e1] at e3;cases e3
    exact⟨b,rfl,hb⟩⟩
   refine⟨.ref D,_,I.laid (a:=D) (o:= .lst vs') (t':=s.toks) kp hD ⟨?_,out,c,?_,gD⟩,rfl,q ps' vs' D hperm hpw T' nD⟩
   ·rw[hlv,hlen];exact Nat.le_of_lt (zn (by omega))
   ·refine zhQ hlv λi v u e1 e2=>?_
    have hi:i<ps'.length:=by
     rcases Nat.lt_or_ge i ps'.length with z|z
     ·exact z
     ·rw[List.getElem?_eq_none (by omega)] at e2;cases e2
    obtain⟨b,e3,e4,_⟩:=hv i ps'[i] (by simp[hi])
    rw[e3] at e2;cases e2
    rw[e4] at e1;cases e1
    rfl
 rcases hq with hq|hq
 ·obtain ⟨its,rv,pl,hz⟩:=I.list hq
  obtain⟨o,ho,hc,n,hd⟩:=pl.isList
  exact key (.inl rfl) ho hc hd rv
 ·obtain ⟨its,rv,pl,hz⟩:=I.tuple hq
  obtain⟨o,ho,hc,n,hd⟩:=pl
  exact key (.inr rfl) ho hc hd rv
end
end L2
namespace L2
open PySem PySem.W PySem.Spec PyProof.Rows RW
abbrev Ky:=Int×Int×List Str
theorem zkL{a b:Ky}(h:a≠b)(e:ltK a b=false):ltK b a=true:=by
 obtain⟨i,n,ps⟩:=a
 obtain⟨j,m,qs⟩:=b
 unfold ltK at *
 simp only at *
 by_cases h1:i=j
 ·by_cases h2:n=m
  ·subst h1 h2
   rw[if_pos rfl,if_pos rfl] at e⊢
   exact zhx (λz=>h (by rw[z])) e
  ·rw[if_pos h1,if_neg h2] at e
   rw[if_pos h1.symm,if_neg (Ne.symm h2)]
   simp at e⊢;omega
 ·rw[if_neg h1] at e
  rw[if_neg (Ne.symm h1)]
  simp at e⊢;omega
def zoW(k:Ky):PyData:= .tuple [.int k.1, .int k.2.1, .tuple (zq k.2.2)]
def KeyO(H:Hp)(b:Addr)(k:Ky):Prop:=∃p,H b=some (.tup [.int k.1, .int k.2.1, .ref p])/\H p=some (.tup (k.2.2.map V.str))/\∀y∈k.2.2,PyData.strOk y=true
theorem KeyO.tr{H:Hp}{b:Addr}{k:Ky}(x:KeyO H b k):Tr H (.ref b) (zoW k):=by
 obtain⟨p,e,ep,ok⟩:=x
 refine .tup e rfl λi v d e1 e2=>?_
 match i,e1,e2 with
 |0,e1,e2=>cases e1;cases e2;exact .int _
 |1,e1,e2=>cases e1;cases e2;exact .int _
 |2,e1,e2=>cases e1;cases e2;exact zap ep ok
structure RawK(h:Heap)(b:Addr)(k:Ky):Prop where
 at_:∃p ti tn jts,IsTup h b #[.int k.1 ti, .int k.2.1 tn, .ref p]/\Vals (k.2.2.map V.str) jts/\IsTup h p jts.toArray/\(∃as,Reads h (.ref p) (.tuple (zq k.2.2)) as)/\(PyData.tuple (zq k.2.2)).canLay0=true
 rd:∃as,Reads h (.ref b) (zoW k) as
 can:(zoW k).canLay0=true
theorem zeP{h h':Heap}{a:Addr}{xs:Array Value}(x:IsTup h a xs)(k:∀b o,h.get? b=some o->h'.get? b=some o):IsTup h' a xs:=let⟨o,g,r⟩:=x;⟨o,k _ _ g,r⟩
theorem KeyO.raw{X:Cx}{pins:List (Addr×Obj)}{σ:L2.St}{H:Hp}{s:Shared}{h':Heap}(I:Inv X pins σ H s){b:Addr}{k:Ky}(x:KeyO H b k)(kp:∀b o,s.heap.get? b=some o->h'.get? b=some o):RawK h' b k:=by
 have t:=x.tr
 obtain⟨p,e,ep,ok⟩:=x
 obtain⟨its,r1,t1,_⟩:=I.tuple (SqT.of e)
 obtain⟨jts,s1,u1,_⟩:=I.tuple (SqT.of ep)
 obtain⟨_,_,_,rfl,x1,x2,x3⟩:=zfX r1
 obtain⟨ti,rfl⟩:=x1
 obtain⟨tn,rfl⟩:=x2
 cases x3
 obtain⟨as,rd1⟩:=(zap ep ok).reads I (.ref p) rfl
 obtain⟨bs,rd2⟩:=t.reads I (.ref b) rfl
 exact⟨⟨p,ti,tn,jts,zeP t1 kp,s1,zeP u1 kp,⟨as,Reads.keeps kp rd1⟩,(zap ep ok).can⟩,⟨bs,Reads.keeps kp rd2⟩,t.can⟩
section
variable{prog:Program}{w:World}{A:Around}{E:Value->Shared->Prop}{s:Shared}
end
theorem zeR{h:Heap}{T:Value}{M:Model}:∀{us:List Value},(∀u∈us,∃a f xs,u=Value.ref a/\IsTup h a xs/\xs[0]?=some f/\Looks M h (typeOf f) T)->∃fs,KatTups h us fs/\fs.length=us.length/\∀f∈fs,Looks M h (typeOf f) T
 |[],_=>⟨[],trivial,rfl,λ_ z=>nomatch z⟩
 |u::us,hh=>by
  obtain⟨fs,h1,h2,h3⟩:=zeR (us:=us) λv hv=>hh v (List.mem_cons_of_mem _ hv)
  obtain⟨a,f,xs,rfl,⟨o,g,c,n,d⟩,e0,lk⟩:=hh u List.mem_cons_self
  refine⟨f::fs,KatTups.cons g c d e0 h1,by simp[h2],λf' hf=>?_⟩
  rcases List.mem_cons.mp hf with rfl|hf
  ·exact lk
  ·exact h3 f' hf
section
variable{X:Cx}{K:PySem.W.Frag}
theorem zfe(hu:X.A.units+70<cLine):CallR X (.builtin "sorted") (zks X.K ltK KeyO):=by
 refine zgp (κ:=tuples' true) (0,0,[]) zkL zhX ziB λs s1 pins σ H I kp=>⟨λits ps hl h0 hk C hC=>?_,λb b' p q C E o1 o2 hC=>?_⟩
 ·obtain ⟨fs,h1,h2,h3⟩:=zeR (h:=s1.heap) (T:= .type "int") (M:=model X.prog X.w) (us:=its) λu hu=>by
   obtain⟨i,hi,e⟩:=List.getElem_of_mem hu
   have hi':i<ps.length:=by omega
   obtain⟨b,rfl,ob⟩:=hk i u ps[i] (by rw[List.getElem?_eq_getElem hi,e]) (List.getElem?_eq_getElem hi')
   obtain⟨p,ti,tn,jts,t1,_⟩:=(ob.raw I kp).at_
   exact⟨b,_,_,rfl,t1,rfl,Looks.of_pure rfl⟩
  exact kat_kind h1 (by omega) h3 rfl hC
 ·have x:=o1.raw I kp
  have y:=o2.raw I kp
  obtain⟨i1,n1,ps⟩:=p
  obtain⟨i2,n2,qs⟩:=q
  obtain⟨p,ti1,tn1,jts,⟨o,g,_,n,d⟩,s1',u1,⟨as,rd1⟩,c1⟩:=x.at_
  obtain⟨p2,ti2,tn2,jts2,⟨o',g',_,n',d'⟩,s2',u2,⟨bs,rd2⟩,c2⟩:=y.at_
  refine kat_lt g d g' d' ?_
  show KatLex X.prog X.w X.A.in1.in1 true (decide (3<3)) C [(.int i1 ti1, .int i2 ti2),(.int n1 tn1, .int n2 tn2),(.ref p, .ref p2)] 0 s1
  refine kat_cons (wpAny_eqBool_int ?_)
  unfold ltK at hC
  simp only at hC
  by_cases hi:i1=i2
  ·rw[show(i1==i2)=true by simp[hi]]
   rw[if_pos hi] at hC
   refine kat_yes (kat_cons (wpAny_eqBool_int ?_))
   by_cases hn:n1=n2
   ·rw[show(n1==n2)=true by simp[hn]]
    rw[if_pos hn] at hC
    refine kat_yes (kat_cons (SeqAt.eqAt_reads _ _ X.A.in1.in1 s1 _ _ _ _ rd1 rd2 c1 c2 (by
     have:=Nat.le_trans (Nat.min_le_left (PyData.tuple (zq ps)).depth (PyData.tuple (zq qs)).depth) zau
     show X.A.units+1+1+_<cLine
     simp only at *
     omega) _ _ _ _ ?_))
    rw[zbQ]
    by_cases hq:ps=qs
    ·rw[decide_eq_true hq]
     refine kat_yes (kat_nil ?_)
     subst hq
     rw[zem] at hC
     exact hC
    ·rw[decide_eq_false hq]
     exact kat_no (kat_one _ _ (zgU s1' s2' u1 u2 (by show X.A.units+1+1<cLine;omega) hC))
   ·rw[show(n1==n2)=false by simp[hn]]
    rw[if_neg hn] at hC
    exact kat_no (kat_one _ _ (PyProof.Rows.lt_int hC))
  ·rw[show(i1==i2)=false by simp[hi]]
   rw[if_neg hi] at hC
   exact kat_no (oneLt_int hC)
end
section
variable{X:Cx}{K:PySem.W.Frag}
def zk7(H:Hp)(kvs kvs':List (Key×V)):Prop:=kvs.length=kvs'.length/\∀kv∈kvs,∃v' dt,zaI kvs' kv.1=some v'/\Tr H kv.2 dt/\Tr H v' dt/\dt.depth<=60
def zpD:R2:=λx y H Q=>∃d d' kvs kvs',x= .ref d/\y= .ref d'/\H d=some (.dK kvs)/\H d'=some (.dK kvs')/\zk7 H kvs kvs'/\Q (.bl false) H
theorem znu{pins:List (Addr×Obj)}{σ:L2.St}{H:Hp}{s:Shared}(I:Inv X pins σ H s)(hu:X.A.units+64<cLine){kvs':List (Key×V)}{kb:List (Key×Value)}(rb:KV kvs' kb){kvs:List (Key×V)}{ka:List (Key×Value)}(ra:KV kvs ka)(hh:∀kv∈kvs,∃v' dt,zaI kvs' kv.1=some v'/\Tr H kv.2 dt/\Tr H v' dt/\dt.depth<=60):KeqHits X.A.in1 s kb ka true:=by
 unfold KV at ra
 induction ra with
 |nil=>exact .nil
 | @cons p q ps qs h t ih=>
   obtain⟨h1,h2⟩:=h
   obtain⟨v',dt,e1,t1,t2,dd⟩:=hh p List.mem_cons_self
   have rv:=rb.val p.1
   rw[e1] at rv
   cases e2:valueAt kb p.1 with
   |none=>rw[e2] at rv;exact(show False from rv).elim
   |some y=>
    rw[e2] at rv
    have rv:RelV v' y:=rv
    obtain⟨as,rd1⟩:=t1.reads I q.2 h2
    obtain⟨bs,rd2⟩:=t2.reads I y rv
    have e:=SeqAt.eqAt_reads _ _ X.A.in1 s _ _ _ _ rd1 rd2 t1.can t2.can (by
     rw[Nat.min_self]
     show X.A.units+1+_<cLine
     omega)
    rw[SeqAt.eqv_refl dt t1.can] at e
    have:=KeqHits.hit (A:=X.A.in1) (s:=s) (kb:=kb) (k:=q.1) (v:=q.2) (y:=y) (by rw[←h1];exact e2) e (ih λkv hk=>hh kv (List.mem_cons_of_mem _ hk))
    exact this
theorem zmL(hu:X.A.units+64<cLine):OpR X (compareOp .NotEq) zpD:=by
 intro pins s σ H x y v u Q I rx ry h
 obtain⟨d,d',kvs,kvs',rfl,rfl,e1,e2,⟨hl,hh⟩,q⟩:=h
 cases rx
 cases ry
 obtain⟨z,hd,vs,rel,dd⟩:=ziY I.hok e1
 obtain⟨z',hd',vs',rel',dd'⟩:=ziY I.hok e2
 refine keq_ne hd hd' dd dd' (by omega) (r:=true) (λ_=>znu I hu rel' rel hh) ?_
 have:vs.length=vs'.length:=by rw[←rel.length,←rel'.length];exact hl
 rw[this]
 refine⟨.bl false,H,I,?_,q⟩
 simp[RelV]
end
end L2
namespace L2
open PySem PySem.Spec PyProof.Rows
section
variable{X:Cx}
end
end L2
namespace RW
open PySem PySem.Spec PyProof.Rows L2
section
variable{α:Type}[DecidableEq α]{mm:α->α->α×α}
structure MM(mm:α->α->α×α):Prop where
 two:∀a b,mm a b=(a,b)\/mm a b=(b,a)
 sym:∀a b,mm a b=mm b a
theorem MM.inj(h:MM mm){a b c d:α}(e:mm a b=mm c d):(a=c/\b=d)\/(a=d/\b=c):=by
 rcases h.two a b with x|x<;>rcases h.two c d with y|y<;>(rw[x,y] at e;cases e)
 ·exact .inl ⟨rfl,rfl⟩
 ·exact .inr ⟨rfl,rfl⟩
 ·exact .inr ⟨rfl,rfl⟩
 ·exact .inl ⟨rfl,rfl⟩
def ed(mm:α->α->α×α):List α->List (α×α)
 |a::b::r=>mm a b::ed mm (b::r)
 |_=> []
def atE(v:α)(p:α×α):Bool:=decide (p.1=v)||decide (p.2=v)
def zm3(v:α)(w:List α):Nat:=(w.filter λa=>decide (a=v)).length
def ze8(a v:α):Nat:=if a=v then 1 else 0
theorem zcM{a b:α}{r:List α}:(a::b::r).getLast (by simp)=(b::r).getLast (by simp):=rfl
theorem zfB{v a:α}{w:List α}:zm3 v (a::w)=ze8 a v+zm3 v w:=by
 unfold zm3 ze8
 by_cases h:a=v
 ·rw[if_pos h,List.filter_cons_of_pos (by simpa using h),List.length_cons];omega
 ·rw[if_neg h,List.filter_cons_of_neg (by simpa using h)];omega
theorem zh8(h:MM mm){v a b:α}:atE v (mm a b)=(decide (a=v)||decide (b=v)):=by
 unfold atE
 rcases h.two a b with e|e<;>rw[e]
 exact Bool.or_comm _ _
theorem zf2(h:MM mm)(v:α):∀(a:α) (r:List α),(a::r).Nodup->((ed mm (a::r)).filter (atE v)).length+ze8 a v+ze8 ((a::r).getLast (by simp)) v=2*zm3 v (a::r)
 |a,[],_=>by
  rw[zfB]
  show 0+ze8 a v+ze8 a v=2*(ze8 a v+0)
  omega
 |a,b::r,nd=>by
  have ih:=zf2 h v b r (List.nodup_cons.mp nd).2
  have hab:a≠b:=λe=>(List.nodup_cons.mp nd).1 (by rw[e];exact List.mem_cons_self)
  rw[zcM,zfB]
  have e:((ed mm (a::b::r)).filter (atE v)).length=ze8 a v+ze8 b v+((ed mm (b::r)).filter (atE v)).length:=by
   show((mm a b::ed mm (b::r)).filter (atE v)).length=_
   have e1:=zh8 h (v:=v) (a:=a) (b:=b)
   unfold ze8
   by_cases h1:a=v
   ·have h2:¬b=v:=λz=>hab (h1.trans z.symm)
    rw[if_pos h1,if_neg h2,List.filter_cons_of_pos (by rw[e1,decide_eq_true h1];rfl),List.length_cons];omega
   ·by_cases h2:b=v
    ·rw[if_neg h1,if_pos h2,List.filter_cons_of_pos (by rw[e1,decide_eq_true h2,Bool.or_true]),List.length_cons];omega
    ·rw[if_neg h1,if_neg h2,List.filter_cons_of_neg (by rw[e1,decide_eq_false h1,decide_eq_false h2];decide)];omega
  rw[e]
  omega
theorem znW(h:MM mm){p:α×α}:∀{w:List α},p∈ed mm w->∃a b,p=mm a b/\a∈w/\b∈w
 |[],z=>(nomatch z)
 |[_],z=>(nomatch z)
 |a::b::r,z=>by
  rcases List.mem_cons.mp (show p∈mm a b::ed mm (b::r)from z)with z|z
  ·exact ⟨a,b,z,List.mem_cons_self,List.mem_cons_of_mem _ List.mem_cons_self⟩
  ·obtain ⟨c,d,e,h1,h2⟩:=znW h z
   exact⟨c,d,e,List.mem_cons_of_mem _ h1,List.mem_cons_of_mem _ h2⟩
theorem zdF(h:MM mm){a b:α}{w:List α}(ha:a∉w):mm a b∉ed mm w:=λz=>by
 obtain⟨c,d,e,h1,h2⟩:=znW h z
 rcases h.inj e with⟨e1,_⟩|⟨e1,_⟩
 ·exact ha (e1▸h1)
 ·exact ha (e1▸h2)
theorem zeK(h:MM mm):∀{w:List α},w.Nodup->(ed mm w).Nodup
 |[],_=>List.nodup_nil
 |[_],_=>List.nodup_nil
 |a::b::r,nd=>List.nodup_cons.mpr ⟨zdF h (List.nodup_cons.mp nd).1,zeK h (List.nodup_cons.mp nd).2⟩
theorem zg9(h:MM mm):∀(a:α) (r r':List α),(a::r).Nodup->(a::r').Nodup->(a::r).getLast (by simp)=(a::r').getLast (by simp)->(∀p,p∈ed mm (a::r)↔p∈ed mm (a::r'))->r=r'
 |a,[],[],_,_,_,_=>rfl
 |a,[],c::r',_,nd',e,_=>by
  exfalso
  rw[zcM] at e
  have:a∈c::r':=by
   have z:(c::r').getLast (by simp)∈c::r':=List.getLast_mem _
   rw[←e] at z
   exact z
  exact(List.nodup_cons.mp nd').1 this
 |a,b::r,[],nd,_,e,_=>by
  exfalso
  rw[zcM] at e
  have:a∈b::r:=by
   have z:(b::r).getLast (by simp)∈b::r:=List.getLast_mem _
   rw[e] at z
   exact z
  exact(List.nodup_cons.mp nd).1 this
 |a,b::r,c::r',nd,nd',e,hp=>by
  have n1:=(List.nodup_cons.mp nd).1
  have n2:=(List.nodup_cons.mp nd').1
  have e1:b=c:=by
   have z:=(hp (mm a b)).mp (show mm a b∈mm a b::ed mm (b::r)from List.mem_cons_self)
   rcases List.mem_cons.mp (show mm a b∈mm a c::ed mm (c::r')from z)with z|z
   ·rcases h.inj z with⟨_,y⟩|⟨y,y'⟩
    ·exact y
    ·exact y'.trans y
   ·exact absurd z (zdF h n2)
  subst e1
  have:=zg9 h b r r' (List.nodup_cons.mp nd).2 (List.nodup_cons.mp nd').2 (by rw[zcM,zcM] at e;exact e) λp=>by
   have:=hp p
   constructor
   ·intro z
    rcases List.mem_cons.mp (show p∈mm a b::ed mm (b::r')from this.mp (List.mem_cons_of_mem _ z))with y|y
    ·subst y;exact absurd z (zdF h n1)
    ·exact y
   ·intro z
    rcases List.mem_cons.mp (show p∈mm a b::ed mm (b::r)from this.mpr (List.mem_cons_of_mem _ z))with y|y
    ·subst y;exact absurd z (zdF h n2)
    ·exact y
  rw[this]
theorem zd9{β:Type}[DecidableEq β]{xs ys:List β}(n1:xs.Nodup)(n2:ys.Nodup)(h:∀x,x∈xs↔x∈ys):xs.length=ys.length:=
 ((List.perm_ext_iff_of_nodup n1 n2).mpr h).length_eq
def zkS(mm:α->α->α×α)(xs:List α)(par:Nat->Nat)(F:List (α×α)):Prop:=∀p∈F,∃k a b,0<k/\par k<k/\xs[k]?=some a/\xs[par k]?=some b/\p=mm a b
theorem zhm(h:MM mm){xs:List α}(nx:xs.Nodup){par:Nat->Nat}{F E:List (α×α)}(fo:zkS mm xs par F){a:α}{r r':List α}(nd:(a::r).Nodup)(nd':(a::r').Nodup)
 (e:(a::r).getLast (by simp)=(a::r').getLast (by simp)) (s1:∀p∈ed mm (a::r),p∈F\/p∈E) (s2:∀p∈ed mm (a::r'),p∈F\/p∈E) (se:∀p∈E,p∈ed mm (a::r)↔p∈ed mm (a::r')):r=r':=by
 refine zg9 h a r r' nd nd' e λp=>?_
 have key:∀m k:Nat,xs.length<=k+m->∀u v,0<k->par k<k->xs[k]?=some u->xs[par k]?=some v->(mm u v∈ed mm (a::r)↔mm u v∈ed mm (a::r')):=by
  intro m
  induction m with
  |zero=>
   intro k hk u v _ _ hu _
   rw[List.getElem?_eq_none (by omega)] at hu;cases hu
  |succ m ih=>
   intro k hk u v k0 hpk hu hv
   by_cases hE:mm u v∈E
   ·exact se _ hE
   have oth:∀q,atE u q=true->q≠mm u v->(q∈ed mm (a::r)↔q∈ed mm (a::r')):=by
    intro q hq hne
    have inF:q∈F->(q∈ed mm (a::r)↔q∈ed mm (a::r')):=λhF=>by
     obtain⟨j,c,d,j0,hpj,hc,hd,rfl⟩:=fo q hF
     rw[zh8 h] at hq
     rcases(Bool.or_eq_true _ _).mp hq with z|z
     ·have z:=of_decide_eq_true z
      subst z
      have:j=k:=by
       have h1:j<xs.length:=by
        rcases Nat.lt_or_ge j xs.length with y|y
        ·exact y
        ·rw[List.getElem?_eq_none y] at hc;cases hc
       have h2:k<xs.length:=by
        rcases Nat.lt_or_ge k xs.length with y|y
        ·exact y
        ·rw[List.getElem?_eq_none y] at hu;cases hu
       rw[List.getElem?_eq_getElem h1] at hc
       rw[List.getElem?_eq_getElem h2] at hu
       exact(List.getElem_inj nx).mp ((Option.some.inj hc).trans (Option.some.inj hu).symm)
      subst this
      rw[hd] at hv;cases hv
      exact absurd rfl hne
     ·have z:=of_decide_eq_true z
      subst z
      have:par j=k:=by
       have h1:par j<xs.length:=by
        rcases Nat.lt_or_ge (par j) xs.length with y|y
        ·exact y
        ·rw[List.getElem?_eq_none y] at hd;cases hd
       have h2:k<xs.length:=by
        rcases Nat.lt_or_ge k xs.length with y|y
        ·exact y
        ·rw[List.getElem?_eq_none y] at hu;cases hu
       rw[List.getElem?_eq_getElem h1] at hd
       rw[List.getElem?_eq_getElem h2] at hu
       exact(List.getElem_inj nx).mp ((Option.some.inj hd).trans (Option.some.inj hu).symm)
      exact ih j (by omega) c d j0 hpj hc hd
    constructor
    ·intro z
     rcases s1 q z with y|y
     ·exact (inF y).mp z
     ·exact (se q y).mp z
    ·intro z
     rcases s2 q z with y|y
     ·exact (inF y).mpr z
     ·exact (se q y).mpr z
   have d1:=zf2 h u a r nd
   have d2:=zf2 h u a r' nd'
   rw[e] at d1
   have n1:((ed mm (a::r)).filter (atE u)).Nodup:=(zeK h nd).sublist List.filter_sublist
   have n2:((ed mm (a::r')).filter (atE u)).Nodup:=(zeK h nd').sublist List.filter_sublist
   have au:atE u (mm u v)=true:=by rw[zh8 h,decide_eq_true rfl];rfl
   constructor
   ·intro z
    rcases Decidable.em (mm u v∈ed mm (a::r'))with y|y
    ·exact y
    exfalso
    have:((ed mm (a::r)).filter (atE u)).length=(mm u v::(ed mm (a::r')).filter (atE u)).length:=zd9 n1 (List.nodup_cons.mpr ⟨λq=>y (List.mem_filter.mp q).1,n2⟩) λq=>by
     rw[List.mem_filter,List.mem_cons,List.mem_filter]
     constructor
     ·rintro ⟨q1,q2⟩
      by_cases eq:q=mm u v
      ·exact .inl eq
      ·exact .inr ⟨(oth q q2 eq).mp q1,q2⟩
     ·rintro (rfl|⟨q1,q2⟩)
      ·exact ⟨z,au⟩
      ·exact ⟨(oth q q2 (λw=>y (w▸q1))).mpr q1,q2⟩
    rw[List.length_cons] at this
    omega
   ·intro z
    rcases Decidable.em (mm u v∈ed mm (a::r))with y|y
    ·exact y
    exfalso
    have:((ed mm (a::r')).filter (atE u)).length=(mm u v::(ed mm (a::r)).filter (atE u)).length:=zd9 n2 (List.nodup_cons.mpr ⟨λq=>y (List.mem_filter.mp q).1,n1⟩) λq=>by
     rw[List.mem_filter,List.mem_cons,List.mem_filter]
     constructor
     ·rintro ⟨q1,q2⟩
      by_cases eq:q=mm u v
      ·exact .inl eq
      ·exact .inr ⟨(oth q q2 eq).mpr q1,q2⟩
     ·rintro (rfl|⟨q1,q2⟩)
      ·exact ⟨z,au⟩
      ·exact ⟨(oth q q2 (λw=>y (w▸q1))).mp q1,q2⟩
    rw[List.length_cons] at this
    omega
 have inF:p∈F->(p∈ed mm (a::r)↔p∈ed mm (a::r')):=λhF=>by
  obtain⟨k,u,v,k0,hp,hu,hv,rfl⟩:=fo p hF
  exact key xs.length k (by omega) u v k0 hp hu hv
 constructor
 ·intro z
  rcases s1 p z with y|y
  ·exact (inF y).mp z
  ·exact (se p y).mp z
 ·intro z
  rcases s2 p z with y|y
  ·exact (inF y).mpr z
  ·exact (se p y).mpr z
def ze6:Nat->List (List Bool)
 |0=> [[]]
 |n+1=>(ze6 n).map (true::·)++(ze6 n).map (false::·)
theorem zfl:∀n,(ze6 n).length=2^n
 |0=>rfl
 |n+1=>by rw[ze6,List.length_append,List.length_map,List.length_map,zfl n,Nat.pow_succ];omega
theorem zdP:∀(l:List Bool),l∈ze6 l.length
 |[]=>List.mem_singleton.mpr rfl
 |b::l=>by
  rw[List.length_cons,ze6,List.mem_append,List.mem_map,List.mem_map]
  cases b with
  |true=>exact .inl ⟨l,zdP l,rfl⟩
  |false=>exact .inr ⟨l,zdP l,rfl⟩
theorem zb8{β:Type}[DecidableEq β]:∀{xs ys:List β},xs.Nodup->(∀x∈xs,x∈ys)->xs.length<=ys.length
 |[],ys,_,_=>Nat.zero_le _
 |x::xs,ys,nd,h=>by
  have hx:=h x List.mem_cons_self
  have:=zb8 (xs:=xs) (ys:=ys.erase x) (List.nodup_cons.mp nd).2 λy hy=>by
   refine(List.mem_erase_of_ne (λe:y=x=>(List.nodup_cons.mp nd).1 (e▸hy))).mpr (h y (List.mem_cons_of_mem _ hy))
  rw[List.length_erase_of_mem hx] at this
  have hp:0<ys.length:=List.length_pos_of_mem hx
  rw[List.length_cons]
  omega
theorem zkA(h:MM mm){xs:List α}(nx:xs.Nodup){par:Nat->Nat}{F E:List (α×α)}(fo:zkS mm xs par F){a g:α}{ws:List (List α)}(nw:ws.Nodup)
 (hw:∀w∈ws,∃r,w=a::r/\w.Nodup/\w.getLast?=some g/\∀p∈ed mm w,p∈F\/p∈E):ws.length<=2^E.length:=by
 have inj:(ws.map λw=>E.map λp=>decide (p∈ed mm w)).Nodup:=by
  refine List.pairwise_map.mpr (nw.imp_of_mem λ{w w'} hm hm' hne e=>hne ?_)
  obtain⟨r,rfl,nd,l,s⟩:=hw w hm
  obtain⟨r',rfl,nd',l',s'⟩:=hw w' hm'
  rw[List.getLast?_eq_some_getLast (by simp)] at l l'
  rw[zhm h nx fo nd nd' ((Option.some.inj l).trans (Option.some.inj l').symm) s s' λp hp=>?_]
  have:=List.map_inj_left.mp e p hp
  exact decide_eq_decide.mp this
 have:=zb8 inj (ys:=ze6 E.length) λx hx=>by
  obtain⟨w,_,rfl⟩:=List.mem_map.mp hx
  have:=zdP (E.map λp=>decide (p∈ed mm w))
  rwa[List.length_map] at this
 rwa[List.length_map,zfl] at this
end
def mmS(x y:Str):Str×Str:=(if ltS y x=true then y else x,if ltS x y=true then y else x)
theorem mmS_MM:MM mmS where
 two:=λa b=>by
  unfold mmS
  cases h:ltS a b with
  |true=>rw[zcj h];exact .inl rfl
  |false=>
   by_cases e:a=b
   ·subst e;rw[h];exact .inl rfl
   ·rw[zbO e h];exact .inr rfl
 sym:=λa b=>by
  unfold mmS
  cases h:ltS a b with
  |true=>rw[zcj h];rfl
  |false=>
   by_cases e:a=b
   ·subst e;rw[h]
   ·rw[zbO e h];rfl
theorem zfT{a b:Str}(h:ltS a b=true):mmS a b=(a,b):=by
 unfold mmS
 rw[zcj h,h];rfl
def Spr(xs:List Str)(ps:List (Str×Str))(k e:Nat):Prop:=∃(par:Nat->Nat) (F E:List (Str×Str)),(∀p∈ps,p∈F\/p∈E)/\(∀p∈F,∃j a b,0<j/\j<k/\par j<j/\xs[j]?=some a/\xs[par j]?=some b/\p=mmS a b)/\E.length<=e
theorem Spr.nil{xs:List Str}{k e:Nat}:Spr xs [] k e:=⟨id,[],[],λ_ z=>(nomatch z),λ_ z=>(nomatch z),Nat.zero_le _⟩
theorem Spr.mono{xs:List Str}{ps ps':List (Str×Str)}{k k' e e':Nat}(h:Spr xs ps k e)(hp:∀p∈ps',p∈ps)(hk:k<=k')(he:e<=e'):Spr xs ps' k' e':=by
 obtain⟨par,F,E,h1,h2,h3⟩:=h
 refine⟨par,F,E,λp hp'=>h1 p (hp p hp'),λp hp'=>?_,by omega⟩
 obtain⟨j,a,b,j0,jk,r⟩:=h2 p hp'
 exact⟨j,a,b,j0,by omega,r⟩
theorem Spr.tie{xs:List Str}{ps ps':List (Str×Str)}{k e t:Nat}{a b:Str}(h:Spr xs ps k e)(hk:0<k)(ht:t<k)(ha:xs[k]?=some a)(hb:xs[t]?=some b)(hp:∀p∈ps',p∈ps\/p=mmS a b):Spr xs ps' (k+1) e:=by
 obtain⟨par,F,E,h1,h2,h3⟩:=h
 refine⟨λj=>if j=k then t else par j,mmS a b::F,E,λp hp'=>?_,λp hp'=>?_,h3⟩
 ·rcases hp p hp' with z|z
  ·rcases h1 p z with y|y
   ·exact .inl (List.mem_cons_of_mem _ y)
   ·exact .inr y
  ·exact .inl (z▸List.mem_cons_self)
 ·rcases List.mem_cons.mp hp' with z|z
  ·exact ⟨k,a,b,hk,by omega,by show(if k=k then t else par k)<k;rw[if_pos rfl];exact ht,ha,by show xs[if k=k then t else par k]?=some b;rw[if_pos rfl];exact hb,z⟩
  ·obtain ⟨j,c,d,j0,jk,pj,hc,hd,e⟩:=h2 p z
   have:j≠k:=by omega
   exact⟨j,c,d,j0,by omega,by show(if j=k then t else par j)<j;rw[if_neg this];exact pj,hc,by show xs[if j=k then t else par j]?=some d;rw[if_neg this];exact hd,e⟩
theorem Spr.more{xs:List Str}{ps ps':List (Str×Str)}{k e:Nat}{q:Str×Str}(h:Spr xs ps k e)(hp:∀p∈ps',p∈ps\/p=q):Spr xs ps' k (e+1):=by
 obtain⟨par,F,E,h1,h2,h3⟩:=h
 refine⟨par,F,q::E,λp hp'=>?_,h2,by rw[List.length_cons];omega⟩
 rcases hp p hp' with z|z
 ·rcases h1 p z with y|y
  ·exact .inl y
  ·exact .inr (List.mem_cons_of_mem _ y)
 ·exact .inr (z▸List.mem_cons_self)
structure SW(g:Str)(ps:List (Str×Str))(w:List Str):Prop where
 nd:w.Nodup
 last:w.getLast?=some g
 ties:∀p∈ed mmS w,p∈ps
theorem SW.ne{g:Str}{ps:List (Str×Str)}{w:List Str}(h:SW g ps w):∃x r,w=x::r:=by
 cases w with
 |nil=>have:=h.last;cases this
 |cons x r=>exact ⟨x,r,rfl⟩
theorem SW.goal{g:Str}{ps:List (Str×Str)}:SW g ps [g]:=⟨by simp,rfl,λ_ z=>(nomatch z)⟩
theorem SW.cons{g x y:Str}{ps:List (Str×Str)}{r:List Str}(h:SW g ps (x::r))(hy:y∉x::r)(t:mmS y x∈ps):SW g ps (y::x::r):=
 ⟨List.nodup_cons.mpr ⟨hy,h.nd⟩,by rw[List.getLast?_cons_cons];exact h.last,λp hp=>by
   rcases List.mem_cons.mp (show p∈mmS y x::ed mmS (x::r)from hp)with z|z
   ·exact z▸t
   ·exact h.ties p z⟩
theorem SW.tail{g x y:Str}{ps:List (Str×Str)}{r:List Str}(h:SW g ps (y::x::r)):SW g ps (x::r)/\y∉x::r/\mmS y x∈ps:=
 ⟨⟨(List.nodup_cons.mp h.nd).2,by have:=h.last;rwa[List.getLast?_cons_cons] at this,λp hp=>h.ties p (List.mem_cons_of_mem _ hp)⟩,(List.nodup_cons.mp h.nd).1,h.ties _ List.mem_cons_self⟩
theorem SW.one{g x:Str}{ps:List (Str×Str)}(h:SW g ps [x]):x=g:=Option.some.inj h.last
theorem SW.at_goal{g:Str}{ps:List (Str×Str)}{r:List Str}(h:SW g ps (g::r)):r=[]:=by
 cases r with
 |nil=>rfl
 |cons x r=>
  have:=h.last
  rw[List.getLast?_cons_cons] at this
  exact absurd (List.mem_of_getLast? this) (List.nodup_cons.mp h.nd).1
theorem SW.mem{g:Str}{ps:List (Str×Str)}{hs:List Str}(hg:g∈hs)(hp:∀p∈ps,p.1∈hs/\p.2∈hs):∀{w:List Str},SW g ps w->∀x∈w,x∈hs
 |[],h,_,z=>(nomatch z)
 |[a],h,x,z=>by rw[List.mem_singleton.mp z,h.one];exact hg
 |a::b::r,h,x,z=>by
  obtain⟨h1,h2,h3⟩:=h.tail
  rcases List.mem_cons.mp z with z|z
  ·subst z
   rcases mmS_MM.two x b with e|e
   ·have:=(hp _ h3).1;rw[e] at this;exact this
   ·have:=(hp _ h3).2;rw[e] at this;exact this
  ·exact SW.mem hg hp h1 x z
theorem zoI{xs:List Str}{ps:List (Str×Str)}{k e:Nat}(nx:xs.Nodup)(sp:Spr xs ps k e){a g:Str}{ws:List (List Str)}(nw:ws.Nodup)(hw:∀w∈ws,SW g ps w/\w.head?=some a):ws.length<=2^e:=by
 obtain⟨par,F,E,h1,h2,h3⟩:=sp
 refine Nat.le_trans (zkA mmS_MM nx (par:=par) (F:=F) (E:=E) (a:=a) (g:=g) (λp hp=>?_) nw λw hm=>?_) (Nat.pow_le_pow_right (by decide) h3)
 ·obtain ⟨j,c,d,j0,jk,r⟩:=h2 p hp
  exact⟨j,c,d,j0,r⟩
 ·obtain ⟨s,hh⟩:=hw w hm
  obtain⟨x,r,rfl⟩:=s.ne
  have e:x=a:=Option.some.inj hh
  subst e
  exact⟨r,rfl,s.nd,s.last,λp hp=>h1 p (s.ties p hp)⟩
theorem zi4{α:Type}[DecidableEq α]{c:Nat}:∀{hs:List α} {ws:List (List α)},ws.Nodup->(∀w∈ws,∃x∈hs,w.head?=some x)->(∀x∈hs,(ws.filter λw=>decide (w.head?=some x)).length<=c)->ws.length<=hs.length*c
 |[],ws,_,h,_=>by
  cases ws with
  |nil=>exact Nat.zero_le _
  |cons w ws=>obtain ⟨x,hx,_⟩:=h w List.mem_cons_self;exact(nomatch hx)
 |x::hs,ws,nd,h,hc=>by
  have ih:=zi4 (hs:=hs) (ws:=ws.filter λw=>!decide (w.head?=some x)) (nd.sublist List.filter_sublist) (λw hw=>by
   obtain⟨hw1,hw2⟩:=List.mem_filter.mp hw
   obtain⟨y,hy,e⟩:=h w hw1
   rcases List.mem_cons.mp hy with z|z
   ·subst z;rw[e] at hw2;simp at hw2
   ·exact ⟨y,z,e⟩) λy hy=>by
    refine Nat.le_trans (List.Sublist.length_le ?_) (hc y (List.mem_cons_of_mem _ hy))
    exact List.Sublist.filter _ List.filter_sublist
  have h1:=hc x List.mem_cons_self
  have h2:ws.length=(ws.filter λw=>decide (w.head?=some x)).length+(ws.filter λw=>!decide (w.head?=some x)).length:=by
   rw[←List.countP_eq_length_filter,←List.countP_eq_length_filter]
   have:=List.length_eq_countP_add_countP (p:=λw=>decide (w.head?=some x)) (l:=ws)
   simpa using this
  rw[List.length_cons,Nat.add_mul,Nat.one_mul]
  omega
def Fw:Nat->Nat
 |0=>1
 |k+1=>1+(k+1)*Fw k
def zeV(n:Nat)(ws:List (List Str)):Nat:=(ws.map λw=>Fw (n -w.length)).sum
theorem zg4{n:Nat}{a b:List (List Str)}:zeV n (a ++b)=zeV n a+zeV n b:=by
 unfold zeV;rw[List.map_append,List.sum_append]
theorem zhE{n L:Nat}:∀{ws:List (List Str)},(∀w∈ws,w.length=L)->zeV n ws=ws.length*Fw (n -L)
 |[],_=>by show 0=0*_;rw[Nat.zero_mul]
 |w::ws,h=>by
  have h1:=zhE (n:=n) λx hx=>h x (List.mem_cons_of_mem _ hx)
  show Fw (n -w.length)+zeV n ws=(ws.length+1)*_
  rw[h1,h w List.mem_cons_self,Nat.add_mul,Nat.one_mul,Nat.add_comm]
structure WOk(hs w:List Str):Prop where
 ne:1<=w.length
 nd:w.Nodup
 mem:∀y∈w,y∈hs
theorem WOk.len{hs w:List Str}(h:WOk hs w)(h10:hs.length<=10):w.length<=10:=Nat.le_trans (zV h.nd h.mem) h10
structure Bf(g:Str)(hs:List Str)(ps:List (Str×Str))(ws:List (List Str))(n:Nat):Prop where
 nd:ws.Nodup
 sw:∀w∈ws,SW g ps w
 root:[g]∈ws
 src:∀y r,y::r∈ws->r≠ []->r∈ws.take n
 cl:∀y x r,x::r∈ws.take n->y∈hs->mmS y x∈ps->y∉x::r->y::x::r∈ws
structure Df(g:Str)(ps:List (Str×Str))(M:List Str->Option (List Str))(L F:List (List Str)):Prop where
 nd:L.Nodup
 fnd:F.Nodup
 fsub:∀w∈F,w∈L
 sw:∀w∈L,SW g ps w/\M w≠none
 root:[g]∈L
 src:∀y r,y::r∈L->r≠ []->r∈L/\r∉F
 cl:∀y x r,x::r∈L->x::r∉F->mmS y x∈ps->y∉x::r->M (y::x::r)≠none->y::x::r∈L
structure DfW(g:Str)(ps:List (Str×Str))(M:List Str->Option (List Str))(x:Str)(r ds:List Str)(L F:List (List Str)):Prop where
 nd:L.Nodup
 fnd:F.Nodup
 fsub:∀w∈F,w∈L
 sw:∀w∈L,SW g ps w/\M w≠none
 root:[g]∈L
 src:∀y q,y::q∈L->q≠ []->q∈L/\q∉F
 me:x::r∈L/\x::r∉F
 kids:∀y,y::x::r∈L->y∈ds
 cl:∀y a q,a::q∈L->a::q∉F->a::q≠x::r->mmS y a∈ps->y∉a::q->M (y::a::q)≠none->y::a::q∈L
 clw:∀y∈ds,y∉x::r->M (y::x::r)≠none->y::x::r∈L
section
variable{g x:Str}{ps:List (Str×Str)}{M:List Str->Option (List Str)}{r ds:List Str}{L F:List (List Str)}
theorem Df.start(h:M [g]≠none):Df g ps M [[g]] [[g]]:=
 ⟨by simp,by simp,λ_ z=>z,λw hw=>by rw[List.mem_singleton.mp hw];exact⟨SW.goal,h⟩,List.mem_singleton.mpr rfl,λy r h hr=>absurd (List.cons.inj (List.mem_singleton.mp h)).2 hr,λy x r h n=>absurd h n⟩
theorem Df.pop(D:Df g ps M L (F ++ [x::r])):DfW g ps M x r [] L F:=by
 have hm:x::r∈F ++ [x::r]:=List.mem_append_right _ (List.mem_singleton.mpr rfl)
 obtain⟨f1,f2,f3⟩:=List.nodup_append.mp D.fnd
 have hnf:x::r∉F:=λz=>f3 _ z _ (List.mem_singleton.mpr rfl) rfl
 refine⟨D.nd,f1,λw hw=>D.fsub w (List.mem_append_left _ hw),D.sw,D.root,λy q h hq=>⟨(D.src y q h hq).1,λz=>(D.src y q h hq).2 (List.mem_append_left _ z)⟩,⟨D.fsub _ hm,hnf⟩,λy h=>absurd hm (D.src y _ h (by simp)).2,λy a q h1 h2 h3=>D.cl y a q h1 λz=>?_,λ_ z=>(nomatch z)⟩
 rcases List.mem_append.mp z with z|z
 ·exact h2 z
 ·exact h3 (List.mem_singleton.mp z)
theorem DfW.skip{y:Str}(D:DfW g ps M x r ds L F)(h:y∈x::r\/M (y::x::r)=none):DfW g ps M x r (ds ++ [y]) L F:=
 ⟨D.nd,D.fnd,D.fsub,D.sw,D.root,D.src,D.me,λz hz=>List.mem_append_left _ (D.kids z hz),D.cl,λz hz h1 h2=>by
   rcases List.mem_append.mp hz with hz|hz
   ·exact D.clw z hz h1 h2
   ·rw[List.mem_singleton.mp hz] at h1 h2
    rcases h with h|h
    ·exact absurd h h1
    ·exact absurd h h2⟩
theorem DfW.add{y:Str}(D:DfW g ps M x r ds L F)(hd:y∉ds)(hy:y∉x::r)(ht:mmS y x∈ps)(hM:M (y::x::r)≠none):DfW g ps M x r (ds ++ [y]) (L ++ [y::x::r]) (F ++ [y::x::r]):=by
 have hn:y::x::r∉L:=λz=>hd (D.kids y z)
 have hne:x::r≠y::x::r:=λz=>by have:=congrArg List.length z;simp at this
 refine⟨List.nodup_append.mpr ⟨D.nd,by simp,λa ha b hb z=>hn (by rw[←List.mem_singleton.mp hb,←z];exact ha)⟩,List.nodup_append.mpr ⟨D.fnd,by simp,λa ha b hb z=>hn (by rw[←List.mem_singleton.mp hb,←z];exact D.fsub a ha)⟩,λw hw=>?_,λw hw=>?_,List.mem_append_left _ D.root,λz q hz hq=>?_,⟨List.mem_append_left _ D.me.1,λz=>?_⟩,λz hz=>?_,λz a q h1 h2 h3 h4 h5 h6=>?_,λz hz h1 h2=>?_⟩
 ·rcases List.mem_append.mp hw with z|z
  ·exact List.mem_append_left _ (D.fsub w z)
  ·exact List.mem_append_right _ z
 ·rcases List.mem_append.mp hw with z|z
  ·exact D.sw w z
  ·rw[List.mem_singleton.mp z];exact⟨(D.sw _ D.me.1).1.cons hy ht,hM⟩
 ·have:∀q,q∈L/\q∉F->q∈L ++ [y::x::r]/\q∉F ++ [y::x::r]:=λq h=>⟨List.mem_append_left _ h.1,λw=>by
   rcases List.mem_append.mp w with w|w
   ·exact h.2 w
   ·exact hn (List.mem_singleton.mp w▸h.1)⟩
  rcases List.mem_append.mp hz with w|w
  ·exact this q (D.src z q w hq)
  ·have e:=(List.cons.inj (List.mem_singleton.mp w)).2
   subst e
   exact this _ D.me
 ·rcases List.mem_append.mp z with z|z
  ·exact D.me.2 z
  ·exact hne (List.mem_singleton.mp z)
 ·rcases List.mem_append.mp hz with w|w
  ·exact List.mem_append_left _ (D.kids z w)
  ·exact List.mem_append_right _ (List.mem_singleton.mpr (List.cons.inj (List.mem_singleton.mp w)).1)
 ·rcases List.mem_append.mp h1 with w|w
  ·exact List.mem_append_left _ (D.cl z a q w (λv=>h2 (List.mem_append_left _ v)) h3 h4 h5 h6)
  ·exact absurd (List.mem_append_right _ w) h2
 ·rcases List.mem_append.mp hz with w|w
  ·exact List.mem_append_left _ (D.clw z w h1 h2)
  ·exact List.mem_append_right _ (List.mem_singleton.mpr (by rw[List.mem_singleton.mp w]))
theorem DfW.done(D:DfW g ps M x r ds L F)(h:∀y,mmS y x∈ps->y∈ds):Df g ps M L F:=
 ⟨D.nd,D.fnd,D.fsub,D.sw,D.root,D.src,λy a q h1 h2 h3 h4 h5=>by
   by_cases e:a::q=x::r
   ·cases e
    exact D.clw y (h y h3) h4 h5
   ·exact D.cl y a q h1 h2 e h3 h4 h5⟩
theorem Df.all(D:Df g ps M L [])(hM:∀y a q,M (y::a::q)≠none->M (a::q)≠none):∀w,w∈L↔SW g ps w/\M w≠none:=λw=>⟨D.sw w,λs=>by
 induction w with
 |nil=>obtain ⟨x,r,e⟩:=s.1.ne;cases e
 |cons y r ih=>
  cases r with
  |nil=>rw[s.1.one];exact D.root
  |cons x r=>
   obtain⟨h1,h2,h3⟩:=s.1.tail
   exact D.cl y x r (ih ⟨h1,hM _ _ _ s.2⟩) (by simp) h3 h2 s.2⟩
end
end RW
namespace L2
open PySem PySem.Spec PyProof.Rows
section
variable{X:Cx}{pos:Pos}{pins:List (Addr×Obj)}{σ:St}{H:Hp}{s:Shared}
variable{K:PySem.W.Frag}
end
end L2
namespace RW
open PySem PySem.Spec PyProof.Rows L2
section
variable{X:Cx}
inductive ChAt(H:Hp):List (Key×V)->List (Str×Option (List Str))->Prop
 |nil:ChAt H [] []
 |cons {x:Str} {v:V} {o:Option (List Str)} {kvs:List (Key×V)} {cs:List (Str×Option (List Str))}:Told H v o->ChAt H kvs cs->ChAt H ((Sum.inr x,v)::kvs) ((x,o)::cs)
def oD:Option (List Str)->PyData
 |none=> .none
 |some w=> .tuple (zq w)
end
end RW
namespace HT
open PySem PySem.Spec PyProof.Rows L2
abbrev ZG(h:Heap)(z TI TO:Addr)(f0:Value)(b:Bool):Prop:=
 h.get? z=some {cls:= .type "zip",dict:=none,data:= .fields #[f0, .bool b, .bool false, .ref TI, .ref TO],slots:= #[]}
section
variable{prog:Program}{w:World}{A:Around}{E:Value->Shared->Prop}{s:Shared}
theorem zi5{z TI TO:Addr}{f0:Value}{fb:Bool}{Q:Bool->Shared->Prop}(hz:ZG s.heap z TI TO f0 fb)(hfree:f0= .none\/∃T:Addr,f0=rawInt T/\s.heap.get? T=none)(h:Q true s):wpAny (model prog w) A (Builtin.SmallTypes.ownedTupleIsFree (.ref z)) Q E s:=by
 unfold Builtin.SmallTypes.ownedTupleIsFree
 rcases hfree with rfl|⟨T,rfl,hT⟩
 ·exact wpAny_bind (wpAny_field hz rfl (x:= .none) rfl (wpAny_pure h))
 ·refine wpAny_bind (wpAny_field hz rfl (x:=rawInt T) rfl ?_)
  show wpAny _ _ (loadIfAlive (Int.toNat (T:Int))>>=_) _ _ _
  refine wpAny_bind (zb4 ?_)
  rw[Int.toNat_natCast,hT]
  exact wpAny_pure h
theorem zjF{z TI TO i1 i2 l1 l2:Addr}{n1 n2 k:Nat}{P1 P2:Nat->Value->Prop}{S1 S2:Nat->Heap->Prop}{a b f0:Value}{fb:Bool}{Q:Value->Shared->Prop}(D:ZipApart z TI TO i1 i2 l1 l2)
 (D1:Draws prog w A i1 [i1,l1] n1 P1 S1) (D2:Draws prog w A i2 [i2,l2] n2 P2 S2)
 (hz:ZG s.heap z TI TO f0 fb) (hfree:f0= .none\/∃T:Addr,f0=rawInt T/\s.heap.get? T=none) (hTI:IsPair s.heap TI (.ref i1) (.ref i2)) (hTO:IsPair s.heap TO a b) (h1:S1 k s.heap) (h2:S2 k s.heap) (k1:k<n1) (k2:k<n2)
 (hQ:∀x y h' tk,P1 k x->P2 k y->IsZip h' z TI TO (rawInt s.heap.objs.size)->IsPair h' TO x y->S1 (k+1) h'->S2 (k+1) h'->IsPair h' s.heap.objs.size x y->h'.objs.size=s.heap.objs.size+1->
   (∀c o,c≠z->c≠TO->c≠i1->c≠i2->s.heap.get? c=some o->h'.get? c=some o)->Q (.ref s.heap.objs.size) {s with heap:=h',toks:=tk}):
 wpAny (model prog w) A (Builtin.«zip.__next__» ⟨[.ref z],[]⟩) (λfin s'=>∃v,fin= .done (.ret v)/\Q v s') E s:=by
 show wpAny _ _ (field (.ref z) 2>>=_) _ _ _
 refine wpAny_bind (wpAny_field hz rfl (x:= .bool false) rfl ?_)
 show wpAny _ _ (field (.ref z) 3>>=_) _ _ _
 refine wpAny_bind (wpAny_field hz rfl (x:= .ref TI) rfl ?_)
 refine wpAny_bind (wpAny_seqItems hTI rfl ?_)
 show wpAny _ _ (Builtin.SmallTypes.ownedTupleIsFree (.ref z)>>=_) _ _ _
 refine wpAny_bind (zi5 hz hfree ?_)
 simp only[if_true]
 refine wpAny_bind (wpAny_rule ?_)
 refine wpAny_bind (wpAny_field hz rfl (x:= .ref TO) rfl ?_)
 refine wpAny_bind (wpAny_setField_rec hz (by simp) λh₁ hz₁ hs₁=>?_)
 replace hz₁:ZG h₁ z TI TO .ellipsis fb:=hz₁
 refine wpAny_bind ?_
 simp only[List.zipIdx_cons,List.zipIdx_nil,List.forIn_cons,List.forIn_nil]
 refine wpAny_bind (wpAny_bind (wpAny_onRaise ?_))
 show wpAny _ _ (Builtin.SmallTypes.nextOf (.ref i1)>>=_) _ _ _
 have f1:∀{i:Nat} {h h':Heap},S1 i h->(∀c o,c≠z->c≠TO->c≠i2->h.get? c=some o->h'.get? c=some o)->S1 i h':=λst kk=>D1.frame _ _ _ st λc hc o e=>by
  rcases List.mem_cons.mp hc with rfl|hc
  ·exact kk c o D.i1z D.TOi1.symm D.i12 e
  ·have:c=l1:=by simpa using hc
   subst this
   exact kk c o D.l1z D.l1TO D.l1i2 e
 have f2:∀{i:Nat} {h h':Heap},S2 i h->(∀c o,c≠z->c≠TO->c≠i1->h.get? c=some o->h'.get? c=some o)->S2 i h':=λst kk=>D2.frame _ _ _ st λc hc o e=>by
  rcases List.mem_cons.mp hc with rfl|hc
  ·exact kk c o D.i2z D.TOi2.symm D.i12.symm e
  ·have:c=l2:=by simpa using hc
   subst this
   exact kk c o D.l2z D.l2TO D.l2i1 e
 refine wpAny_bind (D1.item k _ _ _ k1 (f1 h1 λc o c1 _ _ e=>hs₁.extBut _ _ c1 e) λx h₂ tk2 hx h1₂ hs₂=>wpAny_pure ?_)
 have hTO₂:IsPair h₂ TO a b:=hs₂.extBut _ _ D.TOi1 (hs₁.extBut _ _ D.TOz hTO)
 refine wpAny_bind (wpAny_seqItems hTO₂ rfl ?_)
 refine wpAny_bind (wpAny_updateSeq_pair hTO₂ λh₃ hTO₃ hs₃=>?_)
 replace hTO₃:IsPair h₃ TO x b:=hTO₃
 refine wpAny_bind (wpAny_letGo (wpAny_pure ?_))
 refine wpAny_bind (wpAny_bind (wpAny_onRaise ?_))
 show wpAny _ _ (Builtin.SmallTypes.nextOf (.ref i2)>>=_) _ _ _
 refine wpAny_bind (D2.item k _ _ _ k2 (f2 h2 λc o c1 c2 c3 e=>hs₃.extBut _ _ c2 (hs₂.extBut _ _ c3 (hs₁.extBut _ _ c1 e))) λy h₄ tk4 hy h2₄ hs₄=>wpAny_pure ?_)
 have hTO₄:IsPair h₄ TO x b:=hs₄.extBut _ _ D.TOi2 hTO₃
 refine wpAny_bind (wpAny_seqItems hTO₄ rfl ?_)
 refine wpAny_bind (wpAny_updateSeq_pair hTO₄ λh₅ hTO₅ hs₅=>?_)
 replace hTO₅:IsPair h₅ TO x y:=hTO₅
 refine wpAny_bind (wpAny_letGo (wpAny_pure (wpAny_pure ?_)))
 refine wpAny_bind (wpAny_seqItems hTO₅ rfl ?_)
 refine wpAny_bind (wpAny_newTuple ?_)
 have hsz:h₅.objs.size=s.heap.objs.size:=by rw[hs₅.1,hs₄.1,hs₃.1,hs₂.1,hs₁.1]
 have hz₅:ZG h₅ z TI TO .ellipsis fb:=hs₅.extBut _ _ D.TOz.symm (hs₄.extBut _ _ D.i2z.symm (hs₃.extBut _ _ D.TOz.symm (hs₂.extBut _ _ D.i1z.symm hz₁)))
 have hk₅:∀c o,c≠z->c≠TO->c≠i1->c≠i2->s.heap.get? c=some o->h₅.get? c=some o:=λc o c1 c2 c3 c4 e=>
  hs₅.extBut _ _ c2 (hs₄.extBut _ _ c4 (hs₃.extBut _ _ c2 (hs₂.extBut _ _ c3 (hs₁.extBut _ _ c1 e))))
 have h1₅:S1 (k+1) h₅:=f1 h1₂ λc o c1 c2 c3 e=>hs₅.extBut _ _ c2 (hs₄.extBut _ _ c3 (hs₃.extBut _ _ c2 e))
 have h2₅:S2 (k+1) h₅:=f2 h2₄ λc o c1 c2 c3 e=>hs₅.extBut _ _ c2 e
 have hzlt:z<h₅.objs.size:=Heap.lt_size hz₅
 have hTOlt:TO<h₅.objs.size:=Heap.lt_size hTO₅
 show wpAny _ _ (Builtin.SmallTypes.ownedTupleHandOut (.ref z) (.ref h₅.objs.size)>>=_) _ _ _
 refine wpAny_bind ?_
 unfold Builtin.SmallTypes.ownedTupleHandOut
 have hz₆:ZG (h₅.push {cls:= .type "tuple",data:= .seq #[x,y]}) z TI TO .ellipsis fb:=Heap.get?_push_of_some _ hz₅
 refine wpAny_bind (wpAny_setField_rec hz₆ (by simp) λh₇ hz₇ hs₇=>?_)
 replace hz₇:ZG h₇ z TI TO (rawInt h₅.objs.size) fb:=hz₇
 refine wpAny_setField_rec hz₇ (by simp) λh₈ hz₈ hs₈=>?_
 replace hz₈:IsZip h₈ z TI TO (rawInt h₅.objs.size):=hz₈
 have up:∀c o,c≠z->h₅.get? c=some o->h₈.get? c=some o:=λc o c1 e=>hs₈.extBut _ _ c1 (hs₇.extBut _ _ c1 (Heap.get?_push_of_some _ e))
 have hT₈:IsPair h₈ h₅.objs.size x y:=hs₈.extBut _ _ (Nat.ne_of_gt hzlt) (hs₇.extBut _ _ (Nat.ne_of_gt hzlt) (Heap.get?_push_size _ rfl))
 have hz8:h₈.objs.size=h₅.objs.size+1:=by rw[hs₈.1,hs₇.1,Heap.size_push]
 rw[hsz] at hz₈ hT₈ hz8
 refine wpAny_pure ⟨_,rfl,?_⟩
 show Q (.ref h₅.objs.size) _
 rw[hsz]
 exact hQ x y h₈ _ hx hy hz₈ (up _ _ D.TOz hTO₅) (f1 h1₅ λc o c1 _ _ e=>up c o c1 e) (f2 h2₅ λc o c1 _ _ e=>up c o c1 e) hT₈ hz8 λc o c1 c2 c3 c4 e=>up c o c1 (hk₅ c o c1 c2 c3 c4 e)
theorem zlu{z TI TO i1 i2 l1 l2:Addr}{n1 n2 k:Nat}{P1 P2:Nat->Value->Prop}{S1 S2:Nat->Heap->Prop}{a b f0:Value}{fb:Bool}{Q:Fin->Shared->Prop}(D:ZipApart z TI TO i1 i2 l1 l2)
 (D1:Draws prog w A i1 [i1,l1] n1 P1 S1) (D2:Draws prog w A i2 [i2,l2] n2 P2 S2)
 (hz:ZG s.heap z TI TO f0 fb) (hfree:f0= .none\/∃T:Addr,f0=rawInt T/\s.heap.get? T=none) (hTI:IsPair s.heap TI (.ref i1) (.ref i2)) (hTO:IsPair s.heap TO a b) (h1:S1 k s.heap) (h2:S2 k s.heap) (hend:k=n1\/(k<n1/\k=n2))
 (hE:∀h' tk e,(∀c o,c≠z->c≠TO->c≠i1->c≠i2->s.heap.get? c=some o->h'.get? c=some o)->(∃o,h'.get? e=some o/\o.cls= .type "StopIteration")->E (.ref e) {s with heap:=h',toks:=tk}):
 wpAny (model prog w) A (Builtin.«zip.__next__» ⟨[.ref z],[]⟩) Q E s:=by
 show wpAny _ _ (field (.ref z) 2>>=_) _ _ _
 refine wpAny_bind (wpAny_field hz rfl (x:= .bool false) rfl ?_)
 show wpAny _ _ (field (.ref z) 3>>=_) _ _ _
 refine wpAny_bind (wpAny_field hz rfl (x:= .ref TI) rfl ?_)
 refine wpAny_bind (wpAny_seqItems hTI rfl ?_)
 show wpAny _ _ (Builtin.SmallTypes.ownedTupleIsFree (.ref z)>>=_) _ _ _
 refine wpAny_bind (zi5 hz hfree ?_)
 simp only[if_true]
 refine wpAny_bind (wpAny_rule ?_)
 refine wpAny_bind (wpAny_field hz rfl (x:= .ref TO) rfl ?_)
 refine wpAny_bind (wpAny_setField_rec hz (by simp) λh₁ hz₁ hs₁=>?_)
 replace hz₁:ZG h₁ z TI TO .ellipsis fb:=hz₁
 refine wpAny_bind ?_
 simp only[List.zipIdx_cons,List.zipIdx_nil,List.forIn_cons,List.forIn_nil]
 refine wpAny_bind (wpAny_bind (wpAny_onRaise ?_))
 show wpAny _ _ (Builtin.SmallTypes.nextOf (.ref i1)>>=_) _ _ _
 have f1:∀{i:Nat} {h h':Heap},S1 i h->(∀c o,c≠z->c≠TO->c≠i2->h.get? c=some o->h'.get? c=some o)->S1 i h':=λst kk=>D1.frame _ _ _ st λc hc o e=>by
  rcases List.mem_cons.mp hc with rfl|hc
  ·exact kk c o D.i1z D.TOi1.symm D.i12 e
  ·have:c=l1:=by simpa using hc
   subst this
   exact kk c o D.l1z D.l1TO D.l1i2 e
 have f2:∀{i:Nat} {h h':Heap},S2 i h->(∀c o,c≠z->c≠TO->c≠i1->h.get? c=some o->h'.get? c=some o)->S2 i h':=λst kk=>D2.frame _ _ _ st λc hc o e=>by
  rcases List.mem_cons.mp hc with rfl|hc
  ·exact kk c o D.i2z D.TOi2.symm D.i12.symm e
  ·have:c=l2:=by simpa using hc
   subst this
   exact kk c o D.l2z D.l2TO D.l2i1 e
 rcases hend with rfl|⟨k1,rfl⟩
 ·refine wpAny_bind (D1.done _ _ _ (f1 h1 λc o c1 _ _ e=>hs₁.extBut _ _ c1 e) λh₂ e hs₂ he=>?_)
  obtain⟨oe,hoe,hce⟩:=he
  have hz₂:ZG h₂ z TI TO .ellipsis fb:=hs₂ _ _ D.i1z.symm hz₁
  have hez:e≠z:=λx=>by subst x;rw[hz₂] at hoe;cases hoe;simp at hce
  refine wpAny_setField_rec hz₂ (by simp) λh₃ _ hs₃=>hE h₃ s.toks e (λc o c1 _ c3 _ x=>hs₃.extBut _ _ c1 (hs₂ _ _ c3 (hs₁.extBut _ _ c1 x))) ⟨oe,hs₃.extBut _ _ hez hoe,hce⟩
 ·refine wpAny_bind (D1.item k _ _ _ k1 (f1 h1 λc o c1 _ _ e=>hs₁.extBut _ _ c1 e) λx h₂ tk2 hx h1₂ hs₂=>wpAny_pure ?_)
  have hTO₂:IsPair h₂ TO a b:=hs₂.extBut _ _ D.TOi1 (hs₁.extBut _ _ D.TOz hTO)
  refine wpAny_bind (wpAny_seqItems hTO₂ rfl ?_)
  refine wpAny_bind (wpAny_updateSeq_pair hTO₂ λh₃ hTO₃ hs₃=>?_)
  refine wpAny_bind (wpAny_letGo (wpAny_pure ?_))
  refine wpAny_bind (wpAny_bind (wpAny_onRaise ?_))
  show wpAny _ _ (Builtin.SmallTypes.nextOf (.ref i2)>>=_) _ _ _
  refine wpAny_bind (D2.done _ _ _ (f2 h2 λc o c1 c2 c3 e=>hs₃.extBut _ _ c2 (hs₂.extBut _ _ c3 (hs₁.extBut _ _ c1 e))) λh₄ e hs₄ he=>?_)
  obtain⟨oe,hoe,hce⟩:=he
  have hz₄:ZG h₄ z TI TO .ellipsis fb:=hs₄ _ _ D.i2z.symm (hs₃.extBut _ _ D.TOz.symm (hs₂.extBut _ _ D.i1z.symm hz₁))
  have hez:e≠z:=λx=>by subst x;rw[hz₄] at hoe;cases hoe;simp at hce
  refine wpAny_setField_rec hz₄ (by simp) λh₅ _ hs₅=>hE h₅ _ e (λc o c1 c2 c3 c4 x=>hs₅.extBut _ _ c1 (hs₄ _ _ c4 (hs₃.extBut _ _ c2 (hs₂.extBut _ _ c3 (hs₁.extBut _ _ c1 x))))) ⟨oe,hs₅.extBut _ _ hez hoe,hce⟩
theorem zlc{z TI TO T i1 i2 l1 l2:Addr}{n1 n2 k:Nat}{fb:Bool}{P1 P2:Nat->Value->Prop}{S1 S2:Nat->Heap->Prop}{Q:Fin->Shared->Prop}(D:ZipApart z TI TO i1 i2 l1 l2)
 (D1:Draws prog w A i1 [i1,l1] n1 P1 S1) (D2:Draws prog w A i2 [i2,l2] n2 P2 S2)
 (hz:zdS s.heap z TI TO T fb) (hT:∃o,s.heap.get? T=some o) (hTI:IsPair s.heap TI (.ref i1) (.ref i2)) (h1:S1 k s.heap) (h2:S2 k s.heap) (hend:k=n1\/(k<n1/\k=n2))
 (hE:∀h' tk e,(∀c o,c≠z->c≠i1->c≠i2->s.heap.get? c=some o->h'.get? c=some o)->(∃o,h'.get? e=some o/\o.cls= .type "StopIteration")->E (.ref e) {s with heap:=h',toks:=tk}):
 wpAny (model prog w) A (Builtin.«zip.__next__» ⟨[.ref z],[]⟩) Q E s:=by
 show wpAny _ _ (field (.ref z) 2>>=_) _ _ _
 refine wpAny_bind (wpAny_field hz rfl (x:= .bool false) rfl ?_)
 show wpAny _ _ (field (.ref z) 3>>=_) _ _ _
 refine wpAny_bind (wpAny_field hz rfl (x:= .ref TI) rfl ?_)
 refine wpAny_bind (wpAny_seqItems hTI rfl ?_)
 show wpAny _ _ (Builtin.SmallTypes.ownedTupleIsFree (.ref z)>>=_) _ _ _
 refine wpAny_bind (znY hz hT λh₁ hz₁ hs₁=>?_)
 simp only[Bool.false_eq_true,if_false]
 rw[←Array.forIn_toList]
 show wpAny _ _ (forIn [Value.ref i1,Value.ref i2] _ _>>=_) _ _ _
 simp only[List.forIn_cons,List.forIn_nil]
 refine wpAny_bind (wpAny_bind (wpAny_bind (wpAny_holding ?_)))
 show wpAny _ _ (Builtin.SmallTypes.nextOf (.ref i1)>>=_) _ _ _
 have f1:∀{i:Nat} {h h':Heap},S1 i h->(∀c o,c≠z->c≠i2->h.get? c=some o->h'.get? c=some o)->S1 i h':=λst kk=>D1.frame _ _ _ st λc hc o e=>by
  rcases List.mem_cons.mp hc with rfl|hc
  ·exact kk c o D.i1z D.i12 e
  ·have:c=l1:=by simpa using hc
   subst this
   exact kk c o D.l1z D.l1i2 e
 have f2:∀{i:Nat} {h h':Heap},S2 i h->(∀c o,c≠z->c≠i1->h.get? c=some o->h'.get? c=some o)->S2 i h':=λst kk=>D2.frame _ _ _ st λc hc o e=>by
  rcases List.mem_cons.mp hc with rfl|hc
  ·exact kk c o D.i2z D.i12.symm e
  ·have:c=l2:=by simpa using hc
   subst this
   exact kk c o D.l2z D.l2i1 e
 rcases hend with rfl|⟨k1,rfl⟩
 ·refine wpAny_bind (D1.done _ _ _ (f1 h1 λc o c1 _ e=>hs₁.extBut _ _ c1 e) λh₂ e hs₂ he=>?_)
  exact hE h₂ s.toks e (λc o c1 c3 _ x=>hs₂ _ _ c3 (hs₁.extBut _ _ c1 x)) he
 ·refine wpAny_bind (D1.item k _ _ _ k1 (f1 h1 λc o c1 _ e=>hs₁.extBut _ _ c1 e) λx h₂ tk2 hx h1₂ hs₂=>wpAny_pure (wpAny_pure ?_))
  refine wpAny_bind (wpAny_bind (wpAny_holding ?_))
  show wpAny _ _ (Builtin.SmallTypes.nextOf (.ref i2)>>=_) _ _ _
  refine wpAny_bind (D2.done _ _ _ (f2 h2 λc o c1 c3 e=>hs₂.extBut _ _ c3 (hs₁.extBut _ _ c1 e)) λh₃ e hs₃ he=>?_)
  exact hE h₃ tk2 e (λc o c1 c3 c4 x=>hs₃ _ _ c4 (hs₂.extBut _ _ c3 (hs₁.extBut _ _ c1 x))) he
end
section
variable{prog:Program}{w:World}{A:Around}{E:Value->Shared->Prop}{s:Shared}
theorem zip_itemN{z TI TO i1 i2 l1 l2:Addr}{n1 n2 k:Nat}{P1 P2:Nat->Value->Prop}{S1 S2:Nat->Heap->Prop}{a b f0:Value}{fb:Bool}{Q:Value->Shared->Prop}(D:ZipApart z TI TO i1 i2 l1 l2)
 (D1:Draws prog w A i1 [i1,l1] n1 P1 S1) (D2:Draws prog w A i2 [i2,l2] n2 P2 S2)
 (hz:ZG s.heap z TI TO f0 fb) (hff:f0= .none\/∃T:Addr,f0=rawInt T) (hTI:IsPair s.heap TI (.ref i1) (.ref i2)) (hTO:IsPair s.heap TO a b) (h1:S1 k s.heap) (h2:S2 k s.heap) (k1:k<n1) (k2:k<n2)
 (hQ:∀x y h' tk,P1 k x->P2 k y->(∃f0 fb,ZG h' z TI TO f0 fb/\(f0= .none\/∃T:Addr,f0=rawInt T))->(∃a b,IsPair h' TO a b)->S1 (k+1) h'->S2 (k+1) h'->IsPair h' s.heap.objs.size x y->h'.objs.size=s.heap.objs.size+1->
   (∀c o,c≠z->c≠TO->c≠i1->c≠i2->s.heap.get? c=some o->h'.get? c=some o)->Q (.ref s.heap.objs.size) {s with heap:=h',toks:=tk}):
 wpAny (model prog w) A (Builtin.«zip.__next__» ⟨[.ref z],[]⟩) (λfin s'=>∃v,fin= .done (.ret v)/\Q v s') E s:=by
 have free:(f0= .none\/∃T:Addr,f0=rawInt T/\s.heap.get? T=none)->wpAny (model prog w) A (Builtin.«zip.__next__» ⟨[.ref z],[]⟩) (λfin s'=>∃v,fin= .done (.ret v)/\Q v s') E s:=λhf=>
  zjF D D1 D2 hz hf hTI hTO h1 h2 k1 k2 λx y h' tk px py az ao a1 a2 aT asz hk=>hQ x y h' tk px py ⟨_,_,az, .inr ⟨_,rfl⟩⟩ ⟨_,_,ao⟩ a1 a2 aT asz hk
 rcases hff with rfl|⟨T,rfl⟩
 ·exact free (.inl rfl)
 ·cases hT:s.heap.get? T with
  |none=>exact free (.inr ⟨T,rfl,hT⟩)
  |some o=>exact zjn D D1 D2 hz ⟨o,hT⟩ hTI h1 h2 k1 k2 λx y h' tk px py az a1 a2 aT asz hk=>hQ x y h' tk px py ⟨_,_,az, .inr ⟨_,rfl⟩⟩ ⟨_,_,hk _ _ D.TOz D.TOi1 D.TOi2 hTO⟩ a1 a2 aT asz λc o c1 _ c3 c4 e=>hk c o c1 c3 c4 e
theorem zip_endN{z TI TO i1 i2 l1 l2:Addr}{n1 n2 k:Nat}{P1 P2:Nat->Value->Prop}{S1 S2:Nat->Heap->Prop}{a b f0:Value}{fb:Bool}{Q:Fin->Shared->Prop}(D:ZipApart z TI TO i1 i2 l1 l2)
 (D1:Draws prog w A i1 [i1,l1] n1 P1 S1) (D2:Draws prog w A i2 [i2,l2] n2 P2 S2)
 (hz:ZG s.heap z TI TO f0 fb) (hff:f0= .none\/∃T:Addr,f0=rawInt T) (hTI:IsPair s.heap TI (.ref i1) (.ref i2)) (hTO:IsPair s.heap TO a b) (h1:S1 k s.heap) (h2:S2 k s.heap) (hend:k=n1\/(k<n1/\k=n2))
 (hE:∀h' tk e,(∀c o,c≠z->c≠TO->c≠i1->c≠i2->s.heap.get? c=some o->h'.get? c=some o)->(∃o,h'.get? e=some o/\o.cls= .type "StopIteration")->E (.ref e) {s with heap:=h',toks:=tk}):
 wpAny (model prog w) A (Builtin.«zip.__next__» ⟨[.ref z],[]⟩) Q E s:=by
 have free:(f0= .none\/∃T:Addr,f0=rawInt T/\s.heap.get? T=none)->wpAny (model prog w) A (Builtin.«zip.__next__» ⟨[.ref z],[]⟩) Q E s:=λhf=>zlu D D1 D2 hz hf hTI hTO h1 h2 hend hE
 rcases hff with rfl|⟨T,rfl⟩
 ·exact free (.inl rfl)
 ·cases hT:s.heap.get? T with
  |none=>exact free (.inr ⟨T,rfl,hT⟩)
  |some o=>exact zlc D D1 D2 hz ⟨o,hT⟩ hTI h1 h2 hend λh' tk e hk he=>hE h' tk e (λc o c1 _ c3 c4 x=>hk c o c1 c3 c4 x) he
end
end HT
namespace L2
open PySem PySem.Spec PyProof.Rows
section
variable{X:Cx}{K:PySem.W.Frag}
theorem zjX{P:Program}{w:World}{A:Around}{E:Value->Shared->Prop}{s:Shared}{z TI TO:Addr}{f0:Value}{fb:Bool}{Q:Value->Shared->Prop}(hz:HT.ZG s.heap z TI TO f0 fb)(h:Q (.ref z) s):wpAny (model P w) A (pyIter (.ref z)) Q E s:=by
 have ty:s.TypeIs (.ref z) "zip":=⟨_,hz,rfl⟩
 refine wpAny_pyIter_slot ty PySem.F.slot_zip_iter (wpAny_call_entry PySem.F.slot_zip_iter ty PySem.F.entry_zip_iter (?_:wpAny _ _ (ret (.ref z)) _ _ s) (PySem.F.args_zip_iter_1 _))
 exact wpAny_pure ⟨_,rfl,"zip",_,ty,PySem.F.slot_zip_next.lookup,h⟩
theorem zj0{P:Program}{w:World}{K:PySem.W.Frag}{nm:Str}{pos:Pos}{t1 t2:Bool}(a b z TI TO i1 i2:Addr)(n:Nat)(Z:ZpA z TI TO i1 i2):
 Turn P w K (.Name nm pos) (Itz t1 t2 a b n) [z,TI,TO,i1,i2] z (λi h=>i<=n/\(∃f0 fb,HT.ZG h z TI TO f0 fb/\(f0= .none\/∃T:Addr,f0=rawInt T))/\IsPair h TI (.ref i1) (.ref i2)/\(∃x y,IsPair h TO x y)/\HT.ItH t1 h i1 a i/\HT.ItH t2 h i2 b i) where
 mem:=by simp
 obj:=λi h st c hc=>by
  obtain⟨_,⟨f0,fb,hz,_⟩,hTI,⟨x,y,hTO⟩,h1,h2⟩:=st
  simp only[List.mem_cons,List.not_mem_nil,or_false] at hc
  rcases hc with rfl|rfl|rfl|rfl|rfl
  ·exact ⟨_,hz,λv e=>by cases e⟩
  ·exact ⟨_,hTI,λv e=>by cases e⟩
  ·exact ⟨_,hTO,λv e=>by cases e⟩
  ·obtain ⟨o,ho,d,_⟩:=h1.obj;exact⟨o,ho,d⟩
  ·obtain ⟨o,ho,d,_⟩:=h2.obj;exact⟨o,ho,d⟩
 keep:=λi h h' st kk=>by
  obtain⟨l,⟨f0,fb,hz,hf⟩,hTI,⟨x,y,hTO⟩,h1,h2⟩:=st
  exact⟨l,⟨f0,fb,kk _ (by simp) _ hz,hf⟩,kk _ (by simp) _ hTI,⟨x,y,kk _ (by simp) _ hTO⟩,h1.at λo e=>kk _ (by simp) o e,h2.at λo e=>kk _ (by simp) o e⟩
 item:=by
  intro X hP hw hK hc i pins s σ H E I hf st hg
  subst hP hw hK
  obtain⟨xs,ys,x,y,hq1,hq2,hn,hx,hy⟩:=hg
  obtain⟨it1,rv1,p1⟩:=zag I hq1
  obtain⟨it2,rv2,p2⟩:=zag I hq2
  obtain⟨u1,hu1,ru1⟩:=rv1.get hx
  obtain⟨u2,hu2,ru2⟩:=rv2.get hy
  have hf0:∀c∈ [z,TI,TO,i1,i2],H c=none:=λc hc=>(hf c hc).1
  have D:=Z.apart hf0 hq1.some hq2.some
  obtain⟨hin,⟨f0,fb,hz,hff⟩,hTI,⟨x0,y0,hTO⟩,h1,h2⟩:=st
  have L1:i<it1.toArray.size:=by
   rcases Nat.lt_or_ge i it1.length with q|q
   ·simpa using q
   ·rw[List.getElem?_eq_none q] at hu1;cases hu1
  have L2':i<it2.toArray.size:=by
   rcases Nat.lt_or_ge i it2.length with q|q
   ·simpa using q
   ·rw[List.getElem?_eq_none q] at hu2;cases hu2
  have hT:s.TypeIs (.ref z) "zip":=⟨_,hz,rfl⟩
  unfold pyNext
  refine wpAny_bind (wpAny_attempt (wpAny_callSpecial?_slot (name:=Str.ofString "__next__") hT PySem.F.slot_zip_next (wpAny_call_entry PySem.F.slot_zip_next hT PySem.F.entry_zip_next
   (HT.zip_itemN D (HT.drawsH (A:=X.A.in1) t1 (I.ok.hd hc) i1 a D.l1i1 it1.toArray) (HT.drawsH (A:=X.A.in1) t2 (I.ok.hd hc) i2 b D.l2i2 it2.toArray) hz hff hTI hTO ⟨h1,p1⟩ ⟨h2,p2⟩ L1 L2' λx' y' h' tk hx' hy' az ao a1 a2 aT asz hk=>?_) (PySem.F.args_zip_next_1 _))))
  refine wpAny_pure ?_
  obtain⟨T,hTT⟩:∃T,T=s.heap.objs.size:=⟨_,rfl⟩
  rw[←hTT] at aT⊢
  have e1:x'=u1:=by
   have:it1.toArray[i]?=some u1:=by simpa using hu1
   rw[this] at hx';exact(Option.some.inj hx').symm
  have e2:y'=u2:=by
   have:it2.toArray[i]?=some u2:=by simpa using hu2
   rw[this] at hy';exact(Option.some.inj hy').symm
  subst e1 e2
  refine⟨_,rfl,wpAny_pure ?_⟩
  have ltT:∀{c o},s.heap.get? c=some o->c≠T:=λq e=>by
   have:=Heap.lt_size q
   rw[e,hTT] at this
   exact absurd this (Nat.lt_irrefl _)
  have nTz:T≠z:=Ne.symm (ltT hz)
  have hT2:h'.get? T=some {cls:= .type "tuple",data:= .seq #[x',y']}:=aT
  have fT:H T=none:=I.hok.fresh (Nat.le_of_eq hTT.symm)
  have kk:∀c o,c∉ [z,TI,TO,i1,i2]->s.heap.get? c=some o->h'.get? c=some o:=λc o hc e=>hk c o (λq=>hc (by simp[q])) (λq=>hc (by simp[q])) (λq=>hc (by simp[q])) (λq=>hc (by simp[q])) e
  have nT:T∉ [z,TI,TO,i1,i2]:=λq=>by
   simp only[List.mem_cons,List.not_mem_nil,or_false] at q
   rcases q with q|q|q|q|q
   ·exact nTz q
   ·exact ltT hTI q.symm
   ·exact ltT hTO q.symm
   ·obtain ⟨o,ho,_⟩:=h1.obj;exact ltT ho q.symm
   ·obtain ⟨o,ho,_⟩:=h2.obj;exact ltT ho q.symm
  have neT:∀{c u'},H c=some u'->c≠T:=λq e=>by rw[e,fT] at q;cases q
  refine⟨.ref T,upd H T (.tup [x,y]),?_,rfl,⟨T,xs,ys,x,y,hq1,hq2,rfl,fT,hx,hy,rfl⟩,⟨?_,az,hk _ _ Z.TIz Z.TITO Z.TIi1 Z.TIi2 hTI,ao,a1.1,a2.1⟩,λc hc=>?_⟩
  ·show Inv X pins σ _ {s with heap:=h',gens:=s.gens,drawn:=s.drawn,toks:=tk}
   refine Inv.step (s:=s) (h':=h') (t':=tk) (g':=s.gens) (d':=s.drawn) (ch:=[z,TI,TO,i1,i2]) I (λc hc=>?_) (λc o _ _ hc e' _=>kk c o hc e') (λc o _ _ hc e' _=>⟨o.slots,kk c o hc e'⟩) (λc o _ e' q=>by rw[ze (ltT e')];exact q) (λc o hc e'=>⟨o,kk c o hc e'⟩) (λc xs q=>by rw[ze (neT q)];exact q) (λc o u' q=>by rw[ze (neT q)];exact q) (λc ps q=>⟨#[],by rw[ze (neT q),q];simp⟩) (λm hm=>?_) (λc u' q=>?_) I.bare
   ·obtain ⟨f0,f1,f2,f3,f4,f5⟩:=hf c hc
    exact⟨f3,f1,f4,f5⟩
   ·obtain ⟨o,es,ep,ho,r⟩:=hm
    exact⟨o,es,ep,kk _ o (λq=>(hf _ q).2.1 rfl) ho,r⟩
   ·by_cases hb:c=T
    ·subst hb
     rw[zb] at q
     cases q
     exact⟨few rfl,[x',y'], .cons ru1 (.cons ru2 .nil),⟨_,hT2,rfl,_,rfl⟩,λo q=>by rw[hT2] at q;cases q;rfl⟩
    ·rw[ze hb] at q
     refine(I.hok c u' q).stay (λd v hd q'=>kk d v (λy'=>?_) q') (λd q'=>by rw[ze (neT q')];exact q') λd xs q'=>by rw[ze (neT q')];exact q'
     have:∃u2,H d=some u2:=by
      rcases hd with rfl|hd
      ·exact ⟨_,q⟩
      ·exact ⟨_,hd⟩
     obtain⟨u2,hu2⟩:=this
     rw[hf0 d y'] at hu2;cases hu2
  ·have m1:i<xs.length:=by
    rcases Nat.lt_or_ge i xs.length with q|q
    ·exact q
    ·rw[List.getElem?_eq_none q] at hx;cases hx
   have m2:i<ys.length:=by
    rcases Nat.lt_or_ge i ys.length with q|q
    ·exact q
    ·rw[List.getElem?_eq_none q] at hy;cases hy
   rw[←hn]
   exact Nat.lt_min.mpr ⟨m1,m2⟩
  ·have:c≠T:=λq=>nT (by rw[←q];exact hc)
   rw[ze this]
   exact(hf c hc).1
 done:=by
   intro X hP hw hK hc i pins s σ H E I hf st hg
   subst hP hw hK
   obtain⟨xs,ys,hq1,hq2,hn,hle⟩:=hg
   obtain⟨it1,rv1,p1⟩:=zag I hq1
   obtain⟨it2,rv2,p2⟩:=zag I hq2
   have hf0:∀c∈ [z,TI,TO,i1,i2],H c=none:=λc hc=>(hf c hc).1
   have D:=Z.apart hf0 hq1.some hq2.some
   obtain⟨hin,⟨f0,fb,hz,hff⟩,hTI,⟨x0,y0,hTO⟩,h1,h2⟩:=st
   have ei:i=min xs.length ys.length:=by omega
   have l1:=rv1.length
   have l2:=rv2.length
   have hend:i=it1.toArray.size\/(i<it1.toArray.size/\i=it2.toArray.size):=by
    simp only[List.size_toArray]
    rcases Nat.lt_or_ge ys.length xs.length with q|q
    ·exact .inr ⟨by omega,by omega⟩
    ·exact .inl (by omega)
   have hT:s.TypeIs (.ref z) "zip":=⟨_,hz,rfl⟩
   unfold pyNext
   refine wpAny_bind (wpAny_attempt (wpAny_callSpecial?_slot (name:=Str.ofString "__next__") hT PySem.F.slot_zip_next (wpAny_call_entry PySem.F.slot_zip_next hT PySem.F.entry_zip_next
    (HT.zip_endN D (HT.drawsH (A:=X.A.in1) t1 (I.ok.hd hc) i1 a D.l1i1 it1.toArray) (HT.drawsH (A:=X.A.in1) t2 (I.ok.hd hc) i2 b D.l2i2 it2.toArray) hz hff hTI hTO ⟨h1,p1⟩ ⟨h2,p2⟩ hend λh' tk e hk he=>?_) (PySem.F.args_zip_next_1 _))))
   obtain⟨o,ho,hce⟩:=he
   refine wpAny_bind (wpAny_isInstance (T:="StopIteration") (b:=true) ⟨o,ho,hce⟩ isSubtype_stop ?_)
   refine wpAny_pure ⟨rfl,I.stepF (fp:=[z,TI,TO,i1,i2]) hf λc o hc e=>hk c o (λq=>hc (by simp[q])) (λq=>hc (by simp[q])) (λq=>hc (by simp[q])) (λq=>hc (by simp[q])) e⟩
 self:=λA i s Q E st h=>let ⟨f0,fb,hz,_⟩:=st.2.1;zjX hz h
theorem zoX{nm:Str}{pos2:Pos}{a b:Expr}{ta:TA}{p pos:Pos}(hm:X.mg "zip"=none)(ha:QA X [a,b] ta)(hg:Gl X "zip":=by rfl)(hs:starEach [a,b] X.env=[(false,eval a X.env),(false,eval b X.env)]:=by rfl)(hs2:starEach [b] X.env=[(false,eval b X.env)]:=by rfl):QI X (.Name nm pos2) (.Call (.Name "zip" p) [a,b] [] pos) (zpK ta):=⟨by
 intro pins s σ H R I h
 refine Call_ (zcx I hg hm ze1 (PyProof.Rows.callWith_type1 (thn (ha.o pos pins s σ H _ I h) λus s1 ⟨vs,H1,I1,r1,q1⟩=>?_) (by rw[hs,hs2]) (by rw[hs2];rfl)))
 obtain⟨l1,l2,t1,t2,xs,ys,rfl,hq1,hq2,q⟩:=q1
 obtain⟨u,v,rfl,ru,rv⟩:=zfs r1
 cases ru
 cases rv
 obtain⟨it1,rv1,p1⟩:=zag I1 hq1
 obtain⟨it2,rv2,p2⟩:=zag I1 hq2
 refine HT.call_zp p1 p2 λh' hz hTI hTO hi1 hi2 hsz kk=>?_
 have Z:ZpA (s1.heap.objs.size+4) (s1.heap.objs.size+2) (s1.heap.objs.size+3) s1.heap.objs.size (s1.heap.objs.size+1):=by constructor<;>(intro e;have e':(_:Nat)=_:=e;omega)
 refine wpAny_pyIter_zip hz ?_
 refine⟨s1.heap.objs.size+4,[s1.heap.objs.size+4,s1.heap.objs.size+2,s1.heap.objs.size+3,s1.heap.objs.size,s1.heap.objs.size+1],_,_,H1,rfl,I1.kept (t':=s1.toks) kk,zj0 l1 l2 _ _ _ _ _ (min xs.length ys.length) Z,⟨Nat.zero_le _,⟨_,_,hz, .inl rfl⟩,hTI,⟨_,_,hTO⟩,hi1,hi2⟩,λc hc=>?_,q⟩
 have hb':s1.heap.objs.size<=c:=by
  simp only[List.mem_cons,List.not_mem_nil,or_false] at hc
  rcases hc with e|e|e|e|e<;>(have e':(c:Nat)=_:=e;rw[e'];first|exact Nat.le_refl _|exact Nat.le_add_right _ _)
 exact I1.fpOk hb' (I1.hok.fresh hb')⟩
theorem zoY{e st:Expr}{te:TE}{p2 pos:Pos}(hK:X.K=K)(he:QE X e te)(hst:QE X st (tUn (rU λi=> .int (-i)) (tC (.int 1)))):QE X (.Subscript e (.Slice none none (some st) p2) pos) (zn9 K te):=by subst hK;exact zpV he hst
end
end L2
namespace HT
open PySem PySem.Spec PyProof.Rows L2
abbrev IsTri(h:Heap)(T:Addr)(a b c:Value):Prop:=h.get? T=some {cls:= .type "tuple",data:= .seq #[a,b,c]}
structure Zp3(z TI TO i1 i2 i3:Addr):Prop where
 TIz:TI≠z
 TOz:TO≠z
 i1z:i1≠z
 i2z:i2≠z
 i3z:i3≠z
 TITO:TI≠TO
 TIi1:TI≠i1
 TIi2:TI≠i2
 TIi3:TI≠i3
 TOi1:TO≠i1
 TOi2:TO≠i2
 TOi3:TO≠i3
 i12:i1≠i2
 i13:i1≠i3
 i23:i2≠i3
def Far(l z TO i1 i2 i3:Addr):Prop:=l≠z/\l≠TO/\l≠i1/\l≠i2/\l≠i3
section
variable{prog:Program}{w:World}{A:Around}{E:Value->Shared->Prop}{s:Shared}
theorem zfM{T:Addr}{a b c x:Value}{k:Nat}{Q:Unit->Shared->Prop}(hT:IsTri s.heap T a b c)
 (h:∀h',h'.get? T=some {cls:= .type "tuple",data:= .seq ((#[a,b,c]:Array Value).setIfInBounds k x)}->Heap.SameBut T s.heap h'->Q () {s with heap:=h'}):
 wpAny (model prog w) A (updateSeq T (·.setIfInBounds k x)) Q E s:=by
 refine wpAny_updateSeq hT rfl (h _ ?_ (Heap.SameBut.update ..))
 rw[Heap.get?_update_self _ hT rfl];simp[Obj.mapSeq]
theorem zip3_item{z TI TO i1 i2 i3 l1 l2 l3:Addr}{n k:Nat}{P1 P2 P3:Nat->Value->Prop}{S1 S2 S3:Nat->Heap->Prop}{a b c:Value}{Q:Value->Shared->Prop}(D:Zp3 z TI TO i1 i2 i3)(d1:Far l1 z TO i1 i2 i3)(d2:Far l2 z TO i1 i2 i3)(d3:Far l3 z TO i1 i2 i3)
 (D1:Draws prog w A i1 [i1,l1] n P1 S1) (D2:Draws prog w A i2 [i2,l2] n P2 S2) (D3:Draws prog w A i3 [i3,l3] n P3 S3)
 (hz:IsZip s.heap z TI TO .none) (hTI:IsTri s.heap TI (.ref i1) (.ref i2) (.ref i3)) (hTO:IsTri s.heap TO a b c) (h1:S1 k s.heap) (h2:S2 k s.heap) (h3:S3 k s.heap) (hk:k<n)
 (hQ:∀x y v h' tk,P1 k x->P2 k y->P3 k v->IsZip h' z TI TO (rawInt s.heap.objs.size)->IsTri h' TO x y v->S1 (k+1) h'->S2 (k+1) h'->S3 (k+1) h'->IsTri h' s.heap.objs.size x y v->h'.objs.size=s.heap.objs.size+1->
   (∀e o,e≠z->e≠TO->e≠i1->e≠i2->e≠i3->s.heap.get? e=some o->h'.get? e=some o)->Q (.ref s.heap.objs.size) {s with heap:=h',toks:=tk}):
 wpAny (model prog w) A (Builtin.«zip.__next__» ⟨[.ref z],[]⟩) (λfin s'=>∃v,fin= .done (.ret v)/\Q v s') E s:=by
 show wpAny _ _ (field (.ref z) 2>>=_) _ _ _
 refine wpAny_bind (wpAny_field hz rfl (x:= .bool false) rfl ?_)
 show wpAny _ _ (field (.ref z) 3>>=_) _ _ _
 refine wpAny_bind (wpAny_field hz rfl (x:= .ref TI) rfl ?_)
 refine wpAny_bind (wpAny_seqItems hTI rfl ?_)
 show wpAny _ _ (Builtin.SmallTypes.ownedTupleIsFree (.ref z)>>=_) _ _ _
 refine wpAny_bind (zi5 hz (.inl rfl) ?_)
 simp only[if_true]
 refine wpAny_bind (wpAny_rule ?_)
 refine wpAny_bind (wpAny_field hz rfl (x:= .ref TO) rfl ?_)
 refine wpAny_bind (wpAny_setField_rec hz (by simp) λh₁ hz₁ hs₁=>?_)
 replace hz₁:IsZip h₁ z TI TO .ellipsis:=hz₁
 refine wpAny_bind ?_
 simp only[List.zipIdx_cons,List.zipIdx_nil,List.forIn_cons,List.forIn_nil]
 refine wpAny_bind (wpAny_bind (wpAny_onRaise ?_))
 show wpAny _ _ (Builtin.SmallTypes.nextOf (.ref i1)>>=_) _ _ _
 have f1:∀{i:Nat} {h h':Heap},S1 i h->(∀e o,e≠z->e≠TO->e≠i2->e≠i3->h.get? e=some o->h'.get? e=some o)->S1 i h':=λst kk=>D1.frame _ _ _ st λe he o x=>by
  rcases List.mem_cons.mp he with rfl|he
  ·exact kk e o D.i1z D.TOi1.symm D.i12 D.i13 x
  ·have:e=l1:=by simpa using he
   subst this
   exact kk e o d1.1 d1.2.1 d1.2.2.2.1 d1.2.2.2.2 x
 have f2:∀{i:Nat} {h h':Heap},S2 i h->(∀e o,e≠z->e≠TO->e≠i1->e≠i3->h.get? e=some o->h'.get? e=some o)->S2 i h':=λst kk=>D2.frame _ _ _ st λe he o x=>by
  rcases List.mem_cons.mp he with rfl|he
  ·exact kk e o D.i2z D.TOi2.symm D.i12.symm D.i23 x
  ·have:e=l2:=by simpa using he
   subst this
   exact kk e o d2.1 d2.2.1 d2.2.2.1 d2.2.2.2.2 x
 have f3:∀{i:Nat} {h h':Heap},S3 i h->(∀e o,e≠z->e≠TO->e≠i1->e≠i2->h.get? e=some o->h'.get? e=some o)->S3 i h':=λst kk=>D3.frame _ _ _ st λe he o x=>by
  rcases List.mem_cons.mp he with rfl|he
  ·exact kk e o D.i3z D.TOi3.symm D.i13.symm D.i23.symm x
  ·have:e=l3:=by simpa using he
   subst this
   exact kk e o d3.1 d3.2.1 d3.2.2.1 d3.2.2.2.1 x
 refine wpAny_bind (D1.item k _ _ _ hk (f1 h1 λe o c1 _ _ _ x=>hs₁.extBut _ _ c1 x) λx h₂ tk2 hx h1₂ hs₂=>wpAny_pure ?_)
 have hTO₂:IsTri h₂ TO a b c:=hs₂.extBut _ _ D.TOi1 (hs₁.extBut _ _ D.TOz hTO)
 refine wpAny_bind (wpAny_seqItems hTO₂ rfl ?_)
 refine wpAny_bind (zfM hTO₂ λh₃ hTO₃ hs₃=>?_)
 replace hTO₃:IsTri h₃ TO x b c:=hTO₃
 refine wpAny_bind (wpAny_letGo (wpAny_pure ?_))
 refine wpAny_bind (wpAny_bind (wpAny_onRaise ?_))
 show wpAny _ _ (Builtin.SmallTypes.nextOf (.ref i2)>>=_) _ _ _
 refine wpAny_bind (D2.item k _ _ _ hk (f2 h2 λe o c1 c2 c3 _ x=>hs₃.extBut _ _ c2 (hs₂.extBut _ _ c3 (hs₁.extBut _ _ c1 x))) λy h₄ tk4 hy h2₄ hs₄=>wpAny_pure ?_)
 have hTO₄:IsTri h₄ TO x b c:=hs₄.extBut _ _ D.TOi2 hTO₃
 refine wpAny_bind (wpAny_seqItems hTO₄ rfl ?_)
 refine wpAny_bind (zfM hTO₄ λh₅ hTO₅ hs₅=>?_)
 replace hTO₅:IsTri h₅ TO x y c:=hTO₅
 refine wpAny_bind (wpAny_letGo (wpAny_pure ?_))
 refine wpAny_bind (wpAny_bind (wpAny_onRaise ?_))
 show wpAny _ _ (Builtin.SmallTypes.nextOf (.ref i3)>>=_) _ _ _
 refine wpAny_bind (D3.item k _ _ _ hk (f3 h3 λe o c1 c2 c3 c4 x=>hs₅.extBut _ _ c2 (hs₄.extBut _ _ c4 (hs₃.extBut _ _ c2 (hs₂.extBut _ _ c3 (hs₁.extBut _ _ c1 x))))) λv h₆ tk6 hv h3₆ hs₆=>wpAny_pure ?_)
 have hTO₆:IsTri h₆ TO x y c:=hs₆.extBut _ _ D.TOi3 hTO₅
 refine wpAny_bind (wpAny_seqItems hTO₆ rfl ?_)
 refine wpAny_bind (zfM hTO₆ λh₇ hTO₇ hs₇=>?_)
 replace hTO₇:IsTri h₇ TO x y v:=hTO₇
 refine wpAny_bind (wpAny_letGo (wpAny_pure (wpAny_pure ?_)))
 refine wpAny_bind (wpAny_seqItems hTO₇ rfl ?_)
 refine wpAny_bind (wpAny_newTuple ?_)
 have hsz:h₇.objs.size=s.heap.objs.size:=by rw[hs₇.1,hs₆.1,hs₅.1,hs₄.1,hs₃.1,hs₂.1,hs₁.1]
 have hz₇:IsZip h₇ z TI TO .ellipsis:=hs₇.extBut _ _ D.TOz.symm (hs₆.extBut _ _ D.i3z.symm (hs₅.extBut _ _ D.TOz.symm (hs₄.extBut _ _ D.i2z.symm (hs₃.extBut _ _ D.TOz.symm (hs₂.extBut _ _ D.i1z.symm hz₁)))))
 have hk₇:∀e o,e≠z->e≠TO->e≠i1->e≠i2->e≠i3->s.heap.get? e=some o->h₇.get? e=some o:=λe o c1 c2 c3 c4 c5 x=>
  hs₇.extBut _ _ c2 (hs₆.extBut _ _ c5 (hs₅.extBut _ _ c2 (hs₄.extBut _ _ c4 (hs₃.extBut _ _ c2 (hs₂.extBut _ _ c3 (hs₁.extBut _ _ c1 x))))))
 have h1₇:S1 (k+1) h₇:=f1 h1₂ λe o c1 c2 c3 c4 x=>hs₇.extBut _ _ c2 (hs₆.extBut _ _ c4 (hs₅.extBut _ _ c2 (hs₄.extBut _ _ c3 (hs₃.extBut _ _ c2 x))))
 have h2₇:S2 (k+1) h₇:=f2 h2₄ λe o c1 c2 c3 c4 x=>hs₇.extBut _ _ c2 (hs₆.extBut _ _ c4 (hs₅.extBut _ _ c2 x))
 have h3₇:S3 (k+1) h₇:=f3 h3₆ λe o c1 c2 c3 c4 x=>hs₇.extBut _ _ c2 x
 have hzlt:z<h₇.objs.size:=Heap.lt_size hz₇
 show wpAny _ _ (Builtin.SmallTypes.ownedTupleHandOut (.ref z) (.ref h₇.objs.size)>>=_) _ _ _
 refine wpAny_bind ?_
 unfold Builtin.SmallTypes.ownedTupleHandOut
 have hz₈:IsZip (h₇.push {cls:= .type "tuple",data:= .seq #[x,y,v]}) z TI TO .ellipsis:=Heap.get?_push_of_some _ hz₇
 refine wpAny_bind (wpAny_setField_rec hz₈ (by simp) λh₉ hz₉ hs₉=>?_)
 replace hz₉:IsZip h₉ z TI TO (rawInt h₇.objs.size):=hz₉
 refine wpAny_setField_rec hz₉ (by simp) λhA hzA hsA=>?_
 replace hzA:IsZip hA z TI TO (rawInt h₇.objs.size):=hzA
 have up:∀e o,e≠z->h₇.get? e=some o->hA.get? e=some o:=λe o c1 x=>hsA.extBut _ _ c1 (hs₉.extBut _ _ c1 (Heap.get?_push_of_some _ x))
 have hTA:IsTri hA h₇.objs.size x y v:=hsA.extBut _ _ (Nat.ne_of_gt hzlt) (hs₉.extBut _ _ (Nat.ne_of_gt hzlt) (Heap.get?_push_size _ rfl))
 have hzA':hA.objs.size=h₇.objs.size+1:=by rw[hsA.1,hs₉.1,Heap.size_push]
 rw[hsz] at hzA hTA hzA'
 refine wpAny_pure ⟨_,rfl,?_⟩
 show Q (.ref h₇.objs.size) _
 rw[hsz]
 exact hQ x y v hA _ hx hy hv hzA (up _ _ D.TOz hTO₇) (f1 h1₇ λe o c1 _ _ _ x=>up e o c1 x) (f2 h2₇ λe o c1 _ _ _ x=>up e o c1 x) (f3 h3₇ λe o c1 _ _ _ x=>up e o c1 x) hTA hzA' λe o c1 c2 c3 c4 c5 x=>up e o c1 (hk₇ e o c1 c2 c3 c4 c5 x)
theorem zip3_end{z TI TO i1 i2 i3 l1:Addr}{n:Nat}{P1:Nat->Value->Prop}{S1:Nat->Heap->Prop}{a b c:Value}{Q:Fin->Shared->Prop}(D:Zp3 z TI TO i1 i2 i3)(d1:Far l1 z TO i1 i2 i3)
 (D1:Draws prog w A i1 [i1,l1] n P1 S1)
 (hz:IsZip s.heap z TI TO .none) (hTI:IsTri s.heap TI (.ref i1) (.ref i2) (.ref i3)) (hTO:IsTri s.heap TO a b c) (h1:S1 n s.heap)
 (hE:∀h' tk e,(∀c o,c≠z->c≠TO->c≠i1->c≠i2->c≠i3->s.heap.get? c=some o->h'.get? c=some o)->(∃o,h'.get? e=some o/\o.cls= .type "StopIteration")->E (.ref e) {s with heap:=h',toks:=tk}):
 wpAny (model prog w) A (Builtin.«zip.__next__» ⟨[.ref z],[]⟩) Q E s:=by
 show wpAny _ _ (field (.ref z) 2>>=_) _ _ _
 refine wpAny_bind (wpAny_field hz rfl (x:= .bool false) rfl ?_)
 show wpAny _ _ (field (.ref z) 3>>=_) _ _ _
 refine wpAny_bind (wpAny_field hz rfl (x:= .ref TI) rfl ?_)
 refine wpAny_bind (wpAny_seqItems hTI rfl ?_)
 show wpAny _ _ (Builtin.SmallTypes.ownedTupleIsFree (.ref z)>>=_) _ _ _
 refine wpAny_bind (zi5 hz (.inl rfl) ?_)
 simp only[if_true]
 refine wpAny_bind (wpAny_rule ?_)
 refine wpAny_bind (wpAny_field hz rfl (x:= .ref TO) rfl ?_)
 refine wpAny_bind (wpAny_setField_rec hz (by simp) λh₁ hz₁ hs₁=>?_)
 replace hz₁:IsZip h₁ z TI TO .ellipsis:=hz₁
 refine wpAny_bind ?_
 simp only[List.zipIdx_cons,List.zipIdx_nil,List.forIn_cons,List.forIn_nil]
 refine wpAny_bind (wpAny_bind (wpAny_onRaise ?_))
 show wpAny _ _ (Builtin.SmallTypes.nextOf (.ref i1)>>=_) _ _ _
 have f1:S1 n h₁:=D1.frame _ _ _ h1 λe he o x=>by
  rcases List.mem_cons.mp he with rfl|he
  ·exact hs₁.extBut _ _ D.i1z x
  ·have:e=l1:=by simpa using he
   subst this
   exact hs₁.extBut _ _ d1.1 x
 refine wpAny_bind (D1.done _ _ _ f1 λh₂ e hs₂ he=>?_)
 obtain⟨oe,hoe,hce⟩:=he
 have hz₂:IsZip h₂ z TI TO .ellipsis:=hs₂ _ _ D.i1z.symm hz₁
 have hez:e≠z:=λx=>by subst x;rw[hz₂] at hoe;cases hoe;simp at hce
 exact wpAny_setField_rec hz₂ (by simp) λh₃ _ hs₃=>hE h₃ s.toks e (λc o c1 _ c3 _ _ x=>hs₃.extBut _ _ c1 (hs₂ _ _ c3 (hs₁.extBut _ _ c1 x))) ⟨oe,hs₃.extBut _ _ hez hoe,hce⟩
end
theorem znr(a b c:Value):checkTypeCall "zip" ⟨[a,b,c],[]⟩=pure ():=by kernel_rfl
theorem zm8(a b c:Value):checkBuiltinCall "zip.__new__" ⟨[.type "zip",a,b,c],[]⟩=pure ():=by kernel_rfl
abbrev zmZ(h:Heap)(l1:Addr):Heap:=h.push (itO true l1)
abbrev znf(h:Heap)(l1 l2:Addr):Heap:=(zmZ h l1).push (itO true l2)
abbrev zmY(h:Heap)(l1 l2 l3:Addr):Heap:=(znf h l1 l2).push (itO true l3)
abbrev zm6(h:Heap)(l1 l2 l3:Addr):Heap:=(zmY h l1 l2 l3).push {cls:= .type "tuple",data:= .seq #[.ref h.objs.size, .ref (zmZ h l1).objs.size, .ref (znf h l1 l2).objs.size]}
abbrev znb(h:Heap)(l1 l2 l3:Addr):Heap:=(zm6 h l1 l2 l3).push {cls:= .type "tuple",data:= .seq #[.none, .none, .none]}
abbrev zik(h:Heap)(l1 l2 l3:Addr):Heap:=(znb h l1 l2 l3).push {cls:= .type "zip",data:= .fields #[.none, .bool false, .bool false, .ref (zmY h l1 l2 l3).objs.size, .ref (zm6 h l1 l2 l3).objs.size]}
theorem zk8(l1 l2 l3:Addr)(xs ys zs:Array Value):
 Meets (Builtin.«zip.__new__» ⟨[.type "zip", .ref l1, .ref l2, .ref l3],[]⟩) (λ_ R s=>s.heap.IsTuple l1 xs/\s.heap.IsTuple l2 ys/\s.heap.IsTuple l3 zs/\
  R (.ok (.ret (.ref (znb s.heap l1 l2 l3).objs.size))) {s with heap:=zik s.heap l1 l2 l3}):=
 .of_wp λprog w A R s h=>by
  obtain⟨hp,g,d,tk,os⟩:=s;obtain⟨hl1,hl2,hl3,h⟩:=h
  have hsub:=sub_zip
  have hL1:Heap.IsTuple (Shared.heap ⟨hp,g,d,tk,os⟩) l1 xs:=hl1
  have hL2:Heap.IsTuple (Shared.heap ⟨hp.push {cls:= .type "tuple_iterator",data:= .fields #[.ref l1, .int 0 0]},g,d,tk,os⟩) l2 ys:=(show Heap.IsTuple _ l2 ys from hl2).at λo e=>Heap.get?_push_of_some _ e
  have hL3:Heap.IsTuple (Shared.heap ⟨(hp.push {cls:= .type "tuple_iterator",data:= .fields #[.ref l1, .int 0 0]}).push {cls:= .type "tuple_iterator",data:= .fields #[.ref l2, .int 0 0]},g,d,tk,os⟩) l3 zs:=(show Heap.IsTuple _ l3 zs from hl3).at λo e=>Heap.get?_push_of_some _ (Heap.get?_push_of_some _ e)
  wp_walk using wpAny_pyIter_tuple hL1,wpAny_pyIter_tuple hL2,wpAny_pyIter_tuple hL3
  exact⟨_,rfl,h⟩
section
variable{prog:Program}{w:World}{A:Around}{E:Value->Shared->Prop}{s:Shared}
theorem zh2(a b c d:Value):argsOk "object.__init__" ⟨[a,b,c,d],[]⟩:=by
 rw[argsOk];kernel_rfl
theorem call_zq{l1 l2 l3:Addr}{xs ys zs:Array Value}{Q:Value->Shared->Prop}(hl1:s.heap.IsTuple l1 xs)(hl2:s.heap.IsTuple l2 ys)(hl3:s.heap.IsTuple l3 zs)
 (h:∀h',IsZip h' (s.heap.objs.size+5) (s.heap.objs.size+3) (s.heap.objs.size+4) .none->IsTri h' (s.heap.objs.size+3) (.ref s.heap.objs.size) (.ref (s.heap.objs.size+1)) (.ref (s.heap.objs.size+2))->
   IsTri h' (s.heap.objs.size+4) .none .none .none->ItH true h' s.heap.objs.size l1 0->ItH true h' (s.heap.objs.size+1) l2 0->ItH true h' (s.heap.objs.size+2) l3 0->
   (∀c o,s.heap.get? c=some o->h'.get? c=some o)->Q (.ref (s.heap.objs.size+5)) {s with heap:=h'}):
 wpAny (model prog w) A (call (.type "zip") [.ref l1, .ref l2, .ref l3]) Q E s:=by
 refine callType_new PySem.F.called_zip (by decide) (znr _ _ _) (zm8 _ _ _) (λobj=>zh2 obj _ _ _) PySem.F.entry_zip_new
  (zk8 l1 l2 l3 xs ys zs) ⟨hl1,hl2,hl3,?_⟩
 have z1:(zmZ s.heap l1).objs.size=s.heap.objs.size+1:=Heap.size_push ..
 have z2:(znf s.heap l1 l2).objs.size=s.heap.objs.size+2:=by rw[Heap.size_push,z1]
 have z3:(zmY s.heap l1 l2 l3).objs.size=s.heap.objs.size+3:=by rw[Heap.size_push,z2]
 have z4:(zm6 s.heap l1 l2 l3).objs.size=s.heap.objs.size+4:=by rw[Heap.size_push,z3]
 have z5:(znb s.heap l1 l2 l3).objs.size=s.heap.objs.size+5:=by rw[Heap.size_push,z4]
 have p1:∀{b:Addr} {o:Obj} {h:Heap} {u:Obj},h.get? b=some o->(h.push u).get? b=some o:=λe=>Heap.get?_push_of_some _ e
 have g6:(zik s.heap l1 l2 l3).get? (znb s.heap l1 l2 l3).objs.size=some _:=Heap.get?_push_size _ rfl
 have g5:(zik s.heap l1 l2 l3).get? (zm6 s.heap l1 l2 l3).objs.size=some _:=p1 (Heap.get?_push_size _ rfl)
 have g4:(zik s.heap l1 l2 l3).get? (zmY s.heap l1 l2 l3).objs.size=some _:=p1 (p1 (Heap.get?_push_size _ rfl))
 have g3:(zik s.heap l1 l2 l3).get? (znf s.heap l1 l2).objs.size=some _:=p1 (p1 (p1 (Heap.get?_push_size _ rfl)))
 have g2:(zik s.heap l1 l2 l3).get? (zmZ s.heap l1).objs.size=some _:=p1 (p1 (p1 (p1 (Heap.get?_push_size _ rfl))))
 have g1:(zik s.heap l1 l2 l3).get? s.heap.objs.size=some _:=p1 (p1 (p1 (p1 (p1 (Heap.get?_push_size _ rfl)))))
 show _/\_
 rw[z3,z4,z5] at g6
 rw[z1,z2,z3] at g4
 rw[z4] at g5
 rw[z2] at g3
 rw[z1] at g2
 rw[z5]
 exact⟨⟨_,g6,rfl⟩,h _ g6 g4 g5 (ItH.new g1) (ItH.new g2) (ItH.new g3) λc o x=>p1 (p1 (p1 (p1 (p1 (p1 x)))))⟩
end
end HT
namespace L2
open PySem PySem.Spec PyProof.Rows
section
variable{X:Cx}{K:PySem.W.Frag}
def Tri(H:Hp)(a b c:Addr)(xs ys zs:List V)(n:Nat):Prop:=H a=some (.tup xs)/\H b=some (.tup ys)/\H c=some (.tup zs)/\xs.length=n/\ys.length=n/\zs.length=n
def zpC(a b c:Addr)(n:Nat):It:=
 ⟨λi H=>i<n/\∃xs ys zs,Tri H a b c xs ys zs n,
  λi H x H'=>∃T xs ys zs u v w,Tri H a b c xs ys zs n/\x= .ref T/\H T=none/\xs[i]?=some u/\ys[i]?=some v/\zs[i]?=some w/\H'=upd H T (.tup [u,v,w]),
  λi H=>n<=i/\∃xs ys zs,Tri H a b c xs ys zs n⟩
theorem zj1{P:Program}{w:World}{K:PySem.W.Frag}{elts:List Expr}{k:Nat}{pos:Pos}(a b c z TI TO i1 i2 i3:Addr)(n:Nat)(Z:HT.Zp3 z TI TO i1 i2 i3):
 Turn P w K (.Tuple elts k pos) (zpC a b c n) [z,TI,TO,i1,i2,i3] z (λi h=>i<=n/\IsZip h z TI TO .none/\HT.IsTri h TI (.ref i1) (.ref i2) (.ref i3)/\(∃x y v,HT.IsTri h TO x y v)/\HT.ItH true h i1 a i/\HT.ItH true h i2 b i/\HT.ItH true h i3 c i) where
 mem:=by simp
 obj:=λi h st e he=>by
  obtain⟨_,hz,hTI,⟨x,y,v,hTO⟩,h1,h2,h3⟩:=st
  simp only[List.mem_cons,List.not_mem_nil,or_false] at he
  rcases he with rfl|rfl|rfl|rfl|rfl|rfl
  ·exact ⟨_,hz,λv e=>by cases e⟩
  ·exact ⟨_,hTI,λv e=>by cases e⟩
  ·exact ⟨_,hTO,λv e=>by cases e⟩
  ·obtain ⟨o,ho,d,_⟩:=h1.obj;exact⟨o,ho,d⟩
  ·obtain ⟨o,ho,d,_⟩:=h2.obj;exact⟨o,ho,d⟩
  ·obtain ⟨o,ho,d,_⟩:=h3.obj;exact⟨o,ho,d⟩
 keep:=λi h h' st kk=>by
  obtain⟨l,hz,hTI,⟨x,y,v,hTO⟩,h1,h2,h3⟩:=st
  exact⟨l,kk _ (by simp) _ hz,kk _ (by simp) _ hTI,⟨x,y,v,kk _ (by simp) _ hTO⟩,h1.at λo e=>kk _ (by simp) o e,h2.at λo e=>kk _ (by simp) o e,h3.at λo e=>kk _ (by simp) o e⟩
 item:=by
  intro X hP hw hK hc i pins s σ H E I hf st hg
  subst hP hw hK
  obtain⟨hin,xs,ys,zs,tri⟩:=hg
  obtain⟨hq1,hq2,hq3,n1,n2,n3⟩:=id tri
  obtain⟨it1,rv1,p1⟩:=zag (t:=true) I hq1
  obtain⟨it2,rv2,p2⟩:=zag (t:=true) I hq2
  obtain⟨it3,rv3,p3⟩:=zag (t:=true) I hq3
  have hx:xs[i]?=some xs[i]:=List.getElem?_eq_getElem (by omega)
  have hy:ys[i]?=some ys[i]:=List.getElem?_eq_getElem (by omega)
  have hv:zs[i]?=some zs[i]:=List.getElem?_eq_getElem (by omega)
  obtain⟨u1,hu1,ru1⟩:=rv1.get hx
  obtain⟨u2,hu2,ru2⟩:=rv2.get hy
  obtain⟨u3,hu3,ru3⟩:=rv3.get hv
  generalize xs[i]=x at *
  generalize ys[i]=y at *
  generalize zs[i]=v at *
  have hf0:∀e∈ [z,TI,TO,i1,i2,i3],H e=none:=λe he=>(hf e he).1
  have far:∀{l:Addr} {o:HO},H l=some o->HT.Far l z TO i1 i2 i3:=λ{l o} h=>by
   have n0:∀b∈ [z,TI,TO,i1,i2,i3],l≠b:=λb hb e=>by rw[e,hf0 b hb] at h;cases h
   exact⟨n0 _ (by simp),n0 _ (by simp),n0 _ (by simp),n0 _ (by simp),n0 _ (by simp)⟩
  have d1:=far hq1
  have d2:=far hq2
  have d3:=far hq3
  obtain⟨_,hz,hTI,⟨x0,y0,v0,hTO⟩,h1,h2,h3⟩:=st
  have s1:it1.toArray.size=n:=by rw[List.size_toArray,←rv1.length];exact n1
  have s2:it2.toArray.size=n:=by rw[List.size_toArray,←rv2.length];exact n2
  have s3:it3.toArray.size=n:=by rw[List.size_toArray,←rv3.length];exact n3
  have D1:=HT.drawsH (prog:=X.prog) (w:=X.w) (A:=X.A.in1) true (I.ok.hd hc) i1 a d1.2.2.1 it1.toArray
  have D2:=HT.drawsH (prog:=X.prog) (w:=X.w) (A:=X.A.in1) true (I.ok.hd hc) i2 b d2.2.2.2.1 it2.toArray
  have D3:=HT.drawsH (prog:=X.prog) (w:=X.w) (A:=X.A.in1) true (I.ok.hd hc) i3 c d3.2.2.2.2 it3.toArray
  rw[s1] at D1
  rw[s2] at D2
  rw[s3] at D3
  have hT:s.TypeIs (.ref z) "zip":=⟨_,hz,rfl⟩
  unfold pyNext
  refine wpAny_bind (wpAny_attempt (wpAny_callSpecial?_slot (name:=Str.ofString "__next__") hT PySem.F.slot_zip_next (wpAny_call_entry PySem.F.slot_zip_next hT PySem.F.entry_zip_next
   (HT.zip3_item Z d1 d2 d3 D1 D2 D3 hz hTI hTO ⟨h1,p1⟩ ⟨h2,p2⟩ ⟨h3,p3⟩ hin λx' y' v' h' tk hx' hy' hv' az ao a1 a2 a3 aT asz hk=>?_) (PySem.F.args_zip_next_1 _))))
  refine wpAny_pure ?_
  obtain⟨T,hTT⟩:∃T,T=s.heap.objs.size:=⟨_,rfl⟩
  rw[←hTT] at az aT⊢
  have e1:x'=u1:=by
   have:it1.toArray[i]?=some u1:=by simpa using hu1
   rw[this] at hx';exact(Option.some.inj hx').symm
  have e2:y'=u2:=by
   have:it2.toArray[i]?=some u2:=by simpa using hu2
   rw[this] at hy';exact(Option.some.inj hy').symm
  have e3:v'=u3:=by
   have:it3.toArray[i]?=some u3:=by simpa using hu3
   rw[this] at hv';exact(Option.some.inj hv').symm
  subst e1 e2 e3
  refine⟨_,rfl,wpAny_letOwnedTupleGo_zip az λh2' hz2 hs2=>?_⟩
  have ltT:∀{c o},s.heap.get? c=some o->c≠T:=λq e=>by
   have:=Heap.lt_size q
   rw[e,hTT] at this
   exact absurd this (Nat.lt_irrefl _)
  have nTz:T≠z:=Ne.symm (ltT hz)
  have hT2:h2'.get? T=some {cls:= .type "tuple",data:= .seq #[x',y',v']}:=hs2.extBut _ _ nTz aT
  have fT:H T=none:=I.hok.fresh (Nat.le_of_eq hTT.symm)
  have kk:∀e o,e∉ [z,TI,TO,i1,i2,i3]->s.heap.get? e=some o->h2'.get? e=some o:=λe o he q=>hs2.extBut _ _ (λq=>he (by simp[q])) (hk e o (λq=>he (by simp[q])) (λq=>he (by simp[q])) (λq=>he (by simp[q])) (λq=>he (by simp[q])) (λq=>he (by simp[q])) q)
  have nT:T∉ [z,TI,TO,i1,i2,i3]:=λq=>by
   simp only[List.mem_cons,List.not_mem_nil,or_false] at q
   rcases q with q|q|q|q|q|q
   ·exact nTz q
   ·exact ltT hTI q.symm
   ·exact ltT hTO q.symm
   ·obtain ⟨o,ho,_⟩:=h1.obj;exact ltT ho q.symm
   ·obtain ⟨o,ho,_⟩:=h2.obj;exact ltT ho q.symm
   ·obtain ⟨o,ho,_⟩:=h3.obj;exact ltT ho q.symm
  have neT:∀{c u'},H c=some u'->c≠T:=λq e=>by rw[e,fT] at q;cases q
  refine⟨.ref T,upd H T (.tup [x,y,v]),?_,rfl,⟨T,xs,ys,zs,x,y,v,tri,rfl,fT,hx,hy,hv,rfl⟩,⟨hin,hz2,hs2.extBut _ _ Z.TIz (hk _ _ Z.TIz Z.TITO Z.TIi1 Z.TIi2 Z.TIi3 hTI),⟨_,_,_,hs2.extBut _ _ Z.TOz ao⟩,a1.1.at λo e=>hs2.extBut _ _ Z.i1z e,a2.1.at λo e=>hs2.extBut _ _ Z.i2z e,a3.1.at λo e=>hs2.extBut _ _ Z.i3z e⟩,λe he=>?_⟩
  ·show Inv X pins σ _ {s with heap:=h2',gens:=s.gens,drawn:=s.drawn,toks:=tk}
   refine Inv.step (s:=s) (h':=h2') (t':=tk) (g':=s.gens) (d':=s.drawn) (ch:=[z,TI,TO,i1,i2,i3]) I (λc hc=>?_) (λc o _ _ hc e' _=>kk c o hc e') (λc o _ _ hc e' _=>⟨o.slots,kk c o hc e'⟩) (λc o _ e' q=>by rw[ze (ltT e')];exact q) (λc o hc e'=>⟨o,kk c o hc e'⟩) (λc xs q=>by rw[ze (neT q)];exact q) (λc o u' q=>by rw[ze (neT q)];exact q) (λc ps q=>⟨#[],by rw[ze (neT q),q];simp⟩) (λm hm=>?_) (λc u' q=>?_) I.bare
   ·obtain ⟨f0,f1,f2,f3,f4,f5⟩:=hf c hc
    exact⟨f3,f1,f4,f5⟩
   ·obtain ⟨o,es,ep,ho,r⟩:=hm
    exact⟨o,es,ep,kk _ o (λq=>(hf _ q).2.1 rfl) ho,r⟩
   ·by_cases hb:c=T
    ·subst hb
     rw[zb] at q
     cases q
     exact⟨few rfl,[x',y',v'], .cons ru1 (.cons ru2 (.cons ru3 .nil)),⟨_,hT2,rfl,_,rfl⟩,λo q=>by rw[hT2] at q;cases q;rfl⟩
    ·rw[ze hb] at q
     refine(I.hok c u' q).stay (λd v hd q'=>kk d v (λy'=>?_) q') (λd q'=>by rw[ze (neT q')];exact q') λd xs q'=>by rw[ze (neT q')];exact q'
     have:∃u2,H d=some u2:=by
      rcases hd with rfl|hd
      ·exact ⟨_,q⟩
      ·exact ⟨_,hd⟩
     obtain⟨u2,hu2⟩:=this
     rw[hf0 d y'] at hu2;cases hu2
  ·have:e≠T:=λq=>nT (by rw[←q];exact he)
   rw[ze this]
   exact(hf e he).1
 done:=by
   intro X hP hw hK hc i pins s σ H E I hf st hg
   subst hP hw hK
   obtain⟨hle,xs,ys,zs,hq1,hq2,hq3,n1,n2,n3⟩:=hg
   obtain⟨it1,rv1,p1⟩:=zag (t:=true) I hq1
   have hf0:∀e∈ [z,TI,TO,i1,i2,i3],H e=none:=λe he=>(hf e he).1
   have d1:HT.Far a z TO i1 i2 i3:=by
    have n0:∀b∈ [z,TI,TO,i1,i2,i3],a≠b:=λb hb e=>by rw[e,hf0 b hb] at hq1;cases hq1
    exact⟨n0 _ (by simp),n0 _ (by simp),n0 _ (by simp),n0 _ (by simp),n0 _ (by simp)⟩
   obtain⟨hin,hz,hTI,⟨x0,y0,v0,hTO⟩,h1,h2,h3⟩:=st
   have ei:i=n:=by omega
   subst ei
   have s1:it1.toArray.size=i:=by rw[List.size_toArray,←rv1.length];exact n1
   have D1:=HT.drawsH (prog:=X.prog) (w:=X.w) (A:=X.A.in1) true (I.ok.hd hc) i1 a d1.2.2.1 it1.toArray
   rw[s1] at D1
   have hT:s.TypeIs (.ref z) "zip":=⟨_,hz,rfl⟩
   unfold pyNext
   refine wpAny_bind (wpAny_attempt (wpAny_callSpecial?_slot (name:=Str.ofString "__next__") hT PySem.F.slot_zip_next (wpAny_call_entry PySem.F.slot_zip_next hT PySem.F.entry_zip_next
    (HT.zip3_end Z d1 D1 hz hTI hTO ⟨h1,p1⟩ λh' tk e hk he=>?_) (PySem.F.args_zip_next_1 _))))
   obtain⟨o,ho,hce⟩:=he
   refine wpAny_bind (wpAny_isInstance (T:="StopIteration") (b:=true) ⟨o,ho,hce⟩ isSubtype_stop ?_)
   refine wpAny_pure ⟨rfl,I.stepF (fp:=[z,TI,TO,i1,i2,i3]) hf λc o hc e=>hk c o (λq=>hc (by simp[q])) (λq=>hc (by simp[q])) (λq=>hc (by simp[q])) (λq=>hc (by simp[q])) (λq=>hc (by simp[q])) e⟩
 self:=λA i s Q E st h=>wpAny_pyIter_zip st.2.1 h
def zpe(ta:TA):TI:=λσ H R=>ta σ H λvs H1=>∃a b c xs ys zs n,vs=[.ref a, .ref b, .ref c]/\Tri H1 a b c xs ys zs n/\R (zpC a b c n) H1
theorem zox{elts:List Expr}{k:Nat}{pos2:Pos}{a b c:Expr}{ta:TA}{p pos:Pos}(hm:X.mg "zip"=none)(ha:QA X [a,b,c] ta)(hg:Gl X "zip":=by rfl)(hs:starEach [a,b,c] X.env=(false,eval a X.env)::starEach [b,c] X.env:=by rfl)(hs2:(backTo pos (starEach [b,c] X.env)).any (·.1)=false:=by rfl):QI X (.Tuple elts k pos2) (.Call (.Name "zip" p) [a,b,c] [] pos) (zpe ta):=⟨by
 intro pins s σ H R I h
 refine Call_ (zcx I hg hm ze1 (PyProof.Rows.callWith_type1 (thn (ha.o pos pins s σ H _ I h) λus s1 ⟨vs,H1,I1,r1,q1⟩=>?_) (by rw[hs]) hs2))
 obtain⟨l1,l2,l3,xs,ys,zs,n,rfl,tri,q⟩:=q1
 obtain⟨u,v,w',rfl,ru,rv,rw'⟩:=zfX r1
 cases ru
 cases rv
 cases rw'
 obtain⟨hq1,hq2,hq3,n1,n2,n3⟩:=id tri
 obtain⟨it1,rv1,p1⟩:=zag (t:=true) I1 hq1
 obtain⟨it2,rv2,p2⟩:=zag (t:=true) I1 hq2
 obtain⟨it3,rv3,p3⟩:=zag (t:=true) I1 hq3
 refine HT.call_zq p1 p2 p3 λh' hz hTI hTO hi1 hi2 hi3 kk=>?_
 have Z:HT.Zp3 (s1.heap.objs.size+5) (s1.heap.objs.size+3) (s1.heap.objs.size+4) s1.heap.objs.size (s1.heap.objs.size+1) (s1.heap.objs.size+2):=by constructor<;>(intro e;have e':(_:Nat)=_:=e;omega)
 refine wpAny_pyIter_zip hz ?_
 refine⟨s1.heap.objs.size+5,[s1.heap.objs.size+5,s1.heap.objs.size+3,s1.heap.objs.size+4,s1.heap.objs.size,s1.heap.objs.size+1,s1.heap.objs.size+2],_,_,H1,rfl,I1.kept (t':=s1.toks) kk,zj1 l1 l2 l3 _ _ _ _ _ _ n Z,⟨Nat.zero_le _,hz,hTI,⟨_,_,_,hTO⟩,hi1,hi2,hi3⟩,λc hc=>?_,q⟩
 have hb':s1.heap.objs.size<=c:=by
  simp only[List.mem_cons,List.not_mem_nil,or_false] at hc
  rcases hc with e|e|e|e|e|e<;>(have e':(c:Nat)=_:=e;rw[e'];first|exact Nat.le_refl _|exact Nat.le_add_right _ _)
 exact I1.fpOk hb' (I1.hok.fresh hb')⟩
end
end L2
namespace K20
open PySem PySem.Spec PyProof.Rows L2
def top(i:Nat):Stmt:=PySem.Challenge.pw_restways_k20_whole_let_ways_and_ties.main.body.getD i (.Pass ⟨0,0,0,0⟩)
abbrev zc2:Stmt:=top 4
abbrev zno:List Str:=["cond","way","marks","to","word","about"]
abbrev zbP:List Str:=["cond","way","marks","to"]
theorem c_holds:FnScope zno zbP (zd zc2):=⟨rfl,rfl,rfl,by decide +kernel,rfl,by decide +kernel,by decide +kernel⟩
abbrev zbr:Stmt:=top 5
abbrev zh9:List Str:=["conds","way","marks","to","cond"]
abbrev zaW:List Str:=["conds","way","marks","to"]
theorem c_all_hold:FnScope zh9 zaW (zd zbr):=⟨rfl,rfl,rfl,by decide +kernel,rfl,by decide +kernel,by decide +kernel⟩
abbrev zaL:Stmt:=top 7
abbrev zgo:List Str:=["town","house"]
abbrev zbd:List Str:=["town","house"]
theorem zgw:FnScope zgo zbd (zd zaL):=⟨rfl,rfl,rfl,by decide +kernel,rfl,by decide +kernel,by decide +kernel⟩
abbrev zbl:Stmt:=top 8
abbrev zia:List Str:=["town","house"]
abbrev zbU:List Str:=["town","house"]
theorem ziw:FnScope zia zbU (zd zbl):=⟨rfl,rfl,rfl,by decide +kernel,rfl,by decide +kernel,by decide +kernel⟩
abbrev zcJ:Stmt:=top 9
abbrev zh3:List Str:=["town","house","ties"]
abbrev zeS:List Str:=["town","house"]
theorem c_tied:FnScope zh3 zeS (zd zcJ):=⟨rfl,rfl,rfl,by decide +kernel,rfl,by decide +kernel,by decide +kernel⟩
def zlJ:Scope:={kind:= .function,names:=[(".0", .local),("a", .local),("b", .local),("house", .free)],isGenerator:=false,isCoroutine:=false,more:=[]}
theorem o_tied_1:CompOk zh3 (zd zcJ) ["a","b","house"] [none,none,some 1] zlJ:=⟨rfl,by decide +kernel,by decide +kernel,by decide +kernel,by decide +kernel,rfl,by decide +kernel⟩
def zkO:Scope:={kind:= .function,names:=[(".0", .local),("a", .local),("b", .local),("house", .free)],isGenerator:=false,isCoroutine:=false,more:=[]}
theorem o_tied_2:CompOk zh3 (zd zcJ) ["a","b","house"] [none,none,some 1] zkO:=⟨rfl,by decide +kernel,by decide +kernel,by decide +kernel,by decide +kernel,rfl,by decide +kernel⟩
abbrev zZ:Stmt:=top 11
abbrev zcK:List Str:=["marks","act","word","mark","others"]
abbrev zaz:List Str:=["marks","act"]
theorem c_marks_behind:FnScope zcK zaz (zd zZ):=⟨rfl,rfl,rfl,by decide +kernel,rfl,by decide +kernel,by decide +kernel⟩
def zdO:Scope:={kind:= .function,names:=[(".0", .local),("one", .local),("mark", .free)],isGenerator:=false,isCoroutine:=false,more:=[]}
theorem o_marks_behind_1:CompOk zcK (zd zZ) ["one","mark"] [none,some 3] zdO:=⟨rfl,by decide +kernel,by decide +kernel,by decide +kernel,by decide +kernel,rfl,by decide +kernel⟩
abbrev zci:Stmt:=top 12
abbrev zkz:List Str:=["town","way","marks","to","told","conds","act"]
abbrev zcf:List Str:=["town","way","marks","to"]
theorem c_handed:FnScope zkz zcf (zd zci):=⟨rfl,rfl,rfl,by decide +kernel,rfl,by decide +kernel,by decide +kernel⟩
abbrev zcV:Stmt:=top 14
abbrev zmE:List Str:=["town","way","marks","conds","told"]
abbrev zcr:List Str:=["town","way","marks"]
theorem c_worth:FnScope zmE zcr (zd zcV):=⟨rfl,rfl,rfl,by decide +kernel,rfl,by decide +kernel,by decide +kernel⟩
abbrev zaE:Stmt:=top 15
abbrev zgD:List Str:=["town","way","marks"]
abbrev zaF:List Str:=["town","way","marks"]
theorem zgF:FnScope zgD zaF (zd zaE):=⟨rfl,rfl,rfl,by decide +kernel,rfl,by decide +kernel,by decide +kernel⟩
abbrev zaJ:Stmt:=top 16
abbrev zgs:List Str:=["town","one","other"]
abbrev zbj:List Str:=["town","one","other"]
theorem zgt:FnScope zgs zbj (zd zaJ):=⟨rfl,rfl,rfl,by decide +kernel,rfl,by decide +kernel,by decide +kernel⟩
abbrev zA:Stmt:=top 17
abbrev zaV:List Str:=["town","marked","keys"]
abbrev z7:List Str:=["town","marked"]
theorem c_most_liked_first:FnScope zaV z7 (zd zA):=⟨rfl,rfl,rfl,by decide +kernel,rfl,by decide +kernel,by decide +kernel⟩
def zcB:Scope:={kind:= .function,names:=[(".0", .local),("way", .local),("marks", .local),("liking_key", .globalImplicit),("town", .free)],isGenerator:=false,isCoroutine:=false,more:=[]}
theorem o_most_liked_first_1:CompOk zaV (zd zA) ["way","marks","town"] [none,none,some 0] zcB:=⟨rfl,by decide +kernel,by decide +kernel,by decide +kernel,by decide +kernel,rfl,by decide +kernel⟩
def zcQ:Scope:={kind:= .function,names:=[(".0", .local),("key", .local)],isGenerator:=false,isCoroutine:=false,more:=[]}
theorem o_most_liked_first_2:CompOk zaV (zd zA) ["key"] [none] zcQ:=⟨rfl,by decide +kernel,by decide +kernel,by decide +kernel,by decide +kernel,rfl,by decide +kernel⟩
abbrev zal:Stmt:=top 20
abbrev zfh:List Str:=["town","way","marks","house","told"]
abbrev zan:List Str:=["town","way","marks","house"]
theorem c_marks_ahead:FnScope zfh zan (zd zal):=⟨rfl,rfl,rfl,by decide +kernel,rfl,by decide +kernel,by decide +kernel⟩
abbrev zbm:Stmt:=top 21
abbrev zhR:List Str:=["town","way","told","at"]
abbrev zay:List Str:=["town","way"]
theorem c_marks_of:FnScope zhR zay (zd zbm):=⟨rfl,rfl,rfl,by decide +kernel,rfl,by decide +kernel,by decide +kernel⟩
abbrev za4:Stmt:=top 22
abbrev zhf:List Str:=["town","start","found","fresh","way","house","told"]
abbrev zbw:List Str:=["town"]
theorem c_let_marks:FnScope zhf zbw (zd za4):=⟨rfl,rfl,rfl,by decide +kernel,rfl,by decide +kernel,by decide +kernel⟩
abbrev zcO:Stmt:=top 23
abbrev zhS:List Str:=["town","goal","houses","marked","way","marks"]
abbrev zdT:List Str:=["town"]
theorem c_lets:FnScope zhS zdT (zd zcO):=⟨rfl,rfl,rfl,by decide +kernel,rfl,by decide +kernel,by decide +kernel⟩
def zkU:Scope:={kind:= .function,names:=[(".0", .local),("house", .local)],isGenerator:=false,isCoroutine:=false,more:=[]}
theorem o_lets_1:CompOk zhS (zd zcO) ["house"] [none] zkU:=⟨rfl,by decide +kernel,by decide +kernel,by decide +kernel,by decide +kernel,rfl,by decide +kernel⟩
def zkR:Scope:={kind:= .function,names:=[(".0", .local),("house", .local),("most_liked_first", .globalImplicit),("goal", .free),("marked", .free),("town", .free)],isGenerator:=false,isCoroutine:=false,more:=[]}
theorem o_lets_2:CompOk zhS (zd zcO) ["house","goal","marked","town"] [none,some 1,some 3,some 0] zkR:=⟨rfl,by decide +kernel,by decide +kernel,by decide +kernel,by decide +kernel,rfl,by decide +kernel⟩
abbrev za5:Stmt:=top 25
abbrev zhz:List Str:=["_law_script","_law_k","_law_cell"]
abbrev zbz:List Str:=["_law_script","_law_k"]
theorem c__law_hand:FnScope zhz zbz (zd za5):=⟨rfl,rfl,rfl,by decide +kernel,rfl,by decide +kernel,by decide +kernel⟩
abbrev za1:Stmt:=top 26
abbrev zhq:List Str:=["_law_hand_here","_law_many","_law_digit","_law_turn","_law_mixed","_law_more"]
abbrev zN:List Str:=["_law_hand_here","_law_many"]
theorem c__law_take:FnScope zhq zN (zd za1):=⟨rfl,rfl,rfl,by decide +kernel,rfl,by decide +kernel,by decide +kernel⟩
abbrev za3:Stmt:=top 27
abbrev zhk:List Str:=["_law_hand_here","_law_some"]
abbrev zM:List Str:=["_law_hand_here","_law_some"]
theorem zgW:FnScope zhk zM (zd za3):=⟨rfl,rfl,rfl,by decide +kernel,rfl,by decide +kernel,by decide +kernel⟩
abbrev zai:Stmt:=top 28
abbrev zdC:List Str:=["_law_hand_here","_law_many","_law_letters","_law_first","_law_step","_law_names_here","_law_kept","_law_spot","_law_k"]
abbrev zbg:List Str:=["_law_hand_here","_law_many"]
theorem c__law_names:FnScope zdC zbg (zd zai):=⟨rfl,rfl,rfl,by decide +kernel,rfl,by decide +kernel,by decide +kernel⟩
def zeO:Scope:={kind:= .function,names:=[(".0", .local),("_law_k", .local),("_law_first", .free),("_law_letters", .free),("_law_step", .free)],isGenerator:=false,isCoroutine:=false,more:=[]}
theorem o__law_names_1:CompOk zdC (zd zai) ["_law_k","_law_first","_law_letters","_law_step"] [none,some 3,some 2,some 4] zeO:=⟨rfl,by decide +kernel,by decide +kernel,by decide +kernel,by decide +kernel,rfl,by decide +kernel⟩
abbrev za2:Stmt:=top 29
abbrev zhC:List Str:=["_law_hand_here","_law_houses","_law_marks","_law_to","_law_way","_law_cond_here"]
abbrev zbB:List Str:=["_law_hand_here","_law_houses","_law_marks","_law_to"]
theorem c__law_cond:FnScope zhC zbB (zd za2):=⟨rfl,rfl,rfl,by decide +kernel,rfl,by decide +kernel,by decide +kernel⟩
abbrev zaj:Stmt:=top 30
abbrev zdz:List Str:=["_law_hand_here","_law_houses","_law_marks","_law_to","_law_many"]
abbrev zaM:List Str:=["_law_hand_here","_law_houses","_law_marks","_law_to"]
theorem c__law_conds:FnScope zdz zaM (zd zaj):=⟨rfl,rfl,rfl,by decide +kernel,rfl,by decide +kernel,by decide +kernel⟩
def zey:Scope:={kind:= .function,names:=[(".0", .local),("_law_k", .local),("_law_cond", .globalImplicit),("_law_hand_here", .free),("_law_houses", .free),("_law_marks", .free),("_law_to", .free)],isGenerator:=false,isCoroutine:=false,more:=[]}
theorem o__law_conds_1:CompOk zdz (zd zaj) ["_law_k","_law_hand_here","_law_houses","_law_marks","_law_to"] [none,some 0,some 1,some 2,some 3] zey:=⟨rfl,by decide +kernel,by decide +kernel,by decide +kernel,by decide +kernel,rfl,by decide +kernel⟩
abbrev zac:Stmt:=top 31
abbrev zeG:List Str:=["_law_hand_here","_law_houses","_law_marks","_law_some","_law_k","_law_number"]
abbrev zaw:List Str:=["_law_hand_here","_law_houses","_law_marks"]
theorem c__law_likings:FnScope zeG zaw (zd zac):=⟨rfl,rfl,rfl,by decide +kernel,rfl,by decide +kernel,by decide +kernel⟩
abbrev zaK:Stmt:=top 32
abbrev zf0:List Str:=["_law_hand_here","_law_houses","_law_marks","_law_some","_law_k","_law_act"]
abbrev zbf:List Str:=["_law_hand_here","_law_houses","_law_marks"]
theorem c__law_hands:FnScope zf0 zbf (zd zaK):=⟨rfl,rfl,rfl,by decide +kernel,rfl,by decide +kernel,by decide +kernel⟩
abbrev za6:Stmt:=top 33
abbrev zhw:List Str:=["_law_hand_here","_law_houses","_law_more","_law_ties_here","_law_k","_law_a","_law_b"]
abbrev zbG:List Str:=["_law_hand_here","_law_houses","_law_more"]
theorem c__law_ties:FnScope zhw zbG (zd za6):=⟨rfl,rfl,rfl,by decide +kernel,rfl,by decide +kernel,by decide +kernel⟩
abbrev zae:Stmt:=top 34
abbrev zcF:List Str:=["_law_hand_here","_law_many","_law_names_here","_law_houses","_law_marks","_law_ties_here","_law_goal","_law_rising","_law_likings_here","_law_hands_here"]
abbrev zbE:List Str:=["_law_hand_here"]
theorem c__law_town:FnScope zcF zbE (zd zae):=⟨rfl,rfl,rfl,by decide +kernel,rfl,by decide +kernel,by decide +kernel⟩
def zfd:Scope:={kind:= .function,names:=[(".0", .local),("_law_house", .local),("_law_likings", .globalImplicit),("_law_hand_here", .free),("_law_marks", .free),("_law_names_here", .free)],isGenerator:=false,isCoroutine:=false,more:=[]}
theorem o__law_town_1:CompOk zcF (zd zae) ["_law_house","_law_hand_here","_law_marks","_law_names_here"] [none,some 0,some 4,some 2] zfd:=⟨rfl,by decide +kernel,by decide +kernel,by decide +kernel,by decide +kernel,rfl,by decide +kernel⟩
def zfb:Scope:={kind:= .function,names:=[(".0", .local),("_law_house", .local),("_law_hands", .globalImplicit),("_law_hand_here", .free),("_law_marks", .free),("_law_names_here", .free)],isGenerator:=false,isCoroutine:=false,more:=[]}
theorem o__law_town_2:CompOk zcF (zd zae) ["_law_house","_law_hand_here","_law_marks","_law_names_here"] [none,some 0,some 4,some 2] zfb:=⟨rfl,by decide +kernel,by decide +kernel,by decide +kernel,by decide +kernel,rfl,by decide +kernel⟩
abbrev zam:Stmt:=top 35
abbrev zfc:List Str:=["_law_town_here","_law_known","_law_way","_law_marks","_law_piece"]
abbrev zaS:List Str:=["_law_town_here","_law_known","_law_way"]
theorem c__law_pieced:FnScope zfc zaS (zd zam):=⟨rfl,rfl,rfl,by decide +kernel,rfl,by decide +kernel,by decide +kernel⟩
abbrev zaG:Stmt:=top 36
abbrev zgl:List Str:=["_law_town_here","_law_some","_law_one","_law_other","_law_first","_law_second"]
abbrev za7:List Str:=["_law_town_here","_law_some"]
theorem c__law_falls:FnScope zgl za7 (zd zaG):=⟨rfl,rfl,rfl,by decide +kernel,rfl,by decide +kernel,by decide +kernel⟩
abbrev zY:Stmt:=top 37
abbrev zcP:List Str:=["_law_way","_law_tie"]
abbrev zat:List Str:=["_law_way","_law_tie"]
theorem zeZ:FnScope zcP zat (zd zY):=⟨rfl,rfl,rfl,by decide +kernel,rfl,by decide +kernel,by decide +kernel⟩
def zdZ:Scope:={kind:= .function,names:=[(".0", .local),("_law_pair", .local),("_law_tie", .free)],isGenerator:=false,isCoroutine:=false,more:=[]}
theorem o__law_goes_by_1:CompOk zcP (zd zY) ["_law_pair","_law_tie"] [none,some 1] zdZ:=⟨rfl,by decide +kernel,by decide +kernel,by decide +kernel,by decide +kernel,rfl,by decide +kernel⟩
abbrev z6:Stmt:=top 38
abbrev zcD:List Str:=["_law_town_here","_law_tie"]
abbrev zaA:List Str:=["_law_town_here","_law_tie"]
theorem zeA:FnScope zcD zaA (zd z6):=⟨rfl,rfl,rfl,by decide +kernel,rfl,by decide +kernel,by decide +kernel⟩
def zdL:Scope:={kind:= .function,names:=[(".0", .local),("_law_one", .local),("_law_tie", .free)],isGenerator:=false,isCoroutine:=false,more:=[]}
theorem o__law_without_1:CompOk zcD (zd z6) ["_law_one","_law_tie"] [none,some 1] zdL:=⟨rfl,by decide +kernel,by decide +kernel,by decide +kernel,by decide +kernel,rfl,by decide +kernel⟩
abbrev zR:Stmt:=top 39
abbrev zbu:List Str:=["_law_town_here","_law_known","_law_tie","_law_other","_law_found","_law_house","_law_due"]
abbrev zaR:List Str:=["_law_town_here","_law_known","_law_tie"]
theorem c__law_untied:FnScope zbu zaR (zd zR):=⟨rfl,rfl,rfl,by decide +kernel,rfl,by decide +kernel,by decide +kernel⟩
def zed:Scope:={kind:= .function,names:=[(".0", .local),("_law_way", .local),("_law_goes_by", .globalImplicit),("_law_tie", .free)],isGenerator:=false,isCoroutine:=false,more:=[]}
theorem o__law_untied_1:CompOk zbu (zd zR) ["_law_way","_law_tie"] [none,some 2] zed:=⟨rfl,by decide +kernel,by decide +kernel,by decide +kernel,by decide +kernel,rfl,by decide +kernel⟩
def zek:Scope:={kind:= .function,names:=[(".0", .local),("_law_way", .local),("marks_of", .globalImplicit),("_law_other", .free)],isGenerator:=false,isCoroutine:=false,more:=[]}
theorem o__law_untied_2:CompOk zbu (zd zR) ["_law_way","_law_other"] [none,some 3] zek:=⟨rfl,by decide +kernel,by decide +kernel,by decide +kernel,by decide +kernel,rfl,by decide +kernel⟩
def zee:Scope:={kind:= .function,names:=[(".0", .local),("_law_way", .local),("marks_of", .globalImplicit),("_law_town_here", .free)],isGenerator:=false,isCoroutine:=false,more:=[]}
theorem o__law_untied_3:CompOk zbu (zd zR) ["_law_way","_law_town_here"] [none,some 0] zee:=⟨rfl,by decide +kernel,by decide +kernel,by decide +kernel,by decide +kernel,rfl,by decide +kernel⟩
abbrev zaZ:Stmt:=top 40
abbrev zhe:List Str:=["_law_hand_here","_law_town_here","_law_never","_law_likings_here","_law_hands_here","_law_house","_law_some","_law_more","_law_spot","_law_far"]
abbrev zbI:List Str:=["_law_hand_here","_law_town_here"]
theorem c__law_idle:FnScope zhe zbI (zd zaZ):=⟨rfl,rfl,rfl,by decide +kernel,rfl,by decide +kernel,by decide +kernel⟩
abbrev zb3:Stmt:=top 41
abbrev zhc:List Str:=["_law_script","_law_k","_law_hand_here","_law_town_here","_law_known","_law_house","_law_idle_here"]
abbrev ziF:List Str:=["_law_script"]
theorem c_law:FnScope zhc ziF (zd zb3):=⟨rfl,rfl,rfl,by decide +kernel,rfl,by decide +kernel,by decide +kernel⟩
def zmn:Scope:={kind:= .function,names:=[(".0", .local),("_law_way", .local),("_law_pieced", .globalImplicit),("_law_known", .free),("_law_town_here", .free)],isGenerator:=false,isCoroutine:=false,more:=[]}
theorem o_law_1:CompOk zhc (zd zb3) ["_law_way","_law_known","_law_town_here"] [none,some 4,some 3] zmn:=⟨rfl,by decide +kernel,by decide +kernel,by decide +kernel,by decide +kernel,rfl,by decide +kernel⟩
def zlW:Scope:={kind:= .function,names:=[(".0", .local),("_law_tie", .local),("_law_untied", .globalImplicit),("_law_known", .free),("_law_town_here", .free)],isGenerator:=false,isCoroutine:=false,more:=[]}
theorem o_law_2:CompOk zhc (zd zb3) ["_law_tie","_law_known","_law_town_here"] [none,some 4,some 3] zlW:=⟨rfl,by decide +kernel,by decide +kernel,by decide +kernel,by decide +kernel,rfl,by decide +kernel⟩
def zl2:Scope:={kind:= .function,names:=[(".0", .local),("_law_way", .local),("marks_of", .globalImplicit),("_law_idle_here", .free)],isGenerator:=false,isCoroutine:=false,more:=[]}
theorem o_law_3:CompOk zhc (zd zb3) ["_law_way","_law_idle_here"] [none,some 6] zl2:=⟨rfl,by decide +kernel,by decide +kernel,by decide +kernel,by decide +kernel,rfl,by decide +kernel⟩
def znj:Scope:={kind:= .function,names:=[(".0", .local),("_law_way", .local),("marks_of", .globalImplicit),("_law_town_here", .free)],isGenerator:=false,isCoroutine:=false,more:=[]}
theorem o_law_4:CompOk zhc (zd zb3) ["_law_way","_law_town_here"] [none,some 3] znj:=⟨rfl,by decide +kernel,by decide +kernel,by decide +kernel,by decide +kernel,rfl,by decide +kernel⟩
set_option genInjectivity false in
set_option genSizeOfSpec false in
set_option genSizeOf false in
structure Ev(K:PySem.W.Frag)(mg:Str->Option Value) where
 a_holds:Addr
 d_holds:FuncData
 holds:RW.AtD K mg "holds" zc2 zbP a_holds d_holds
 a_all_hold:Addr
 d_all_hold:FuncData
 all_hold:RW.AtD K mg "all_hold" zbr zaW a_all_hold d_all_hold
 a_likings_of:Addr
 d_likings_of:FuncData
 likings_of:RW.At K mg "likings_of" zaL zbd a_likings_of d_likings_of
 a_hands_of:Addr
 d_hands_of:FuncData
 hands_of:RW.At K mg "hands_of" zbl zbU a_hands_of d_hands_of
 a_tied:Addr
 d_tied:FuncData
 tied:RW.At K mg "tied" zcJ zeS a_tied d_tied
 a_marks_behind:Addr
 d_marks_behind:FuncData
 marks_behind:RW.At K mg "marks_behind" zZ zaz a_marks_behind d_marks_behind
 a_handed:Addr
 d_handed:FuncData
 handed:RW.At K mg "handed" zci zcf a_handed d_handed
 a_worth:Addr
 d_worth:FuncData
 worth:RW.At K mg "worth" zcV zcr a_worth d_worth
 a_liking_key:Addr
 d_liking_key:FuncData
 liking_key:RW.At K mg "liking_key" zaE zaF a_liking_key d_liking_key
 a_likes_more:Addr
 d_likes_more:FuncData
 likes_more:RW.At K mg "likes_more" zaJ zbj a_likes_more d_likes_more
 a_most_liked_first:Addr
 d_most_liked_first:FuncData
 most_liked_first:RW.At K mg "most_liked_first" zA z7 a_most_liked_first d_most_liked_first
 a_marks_ahead:Addr
 d_marks_ahead:FuncData
 marks_ahead:RW.At K mg "marks_ahead" zal zan a_marks_ahead d_marks_ahead
 a_marks_of:Addr
 d_marks_of:FuncData
 marks_of:RW.At K mg "marks_of" zbm zay a_marks_of d_marks_of
 a_let_marks:Addr
 d_let_marks:FuncData
 let_marks:RW.At K mg "let_marks" za4 zbw a_let_marks d_let_marks
 a_lets:Addr
 d_lets:FuncData
 lets:RW.At K mg "lets" zcO zdT a_lets d_lets
 a__law_hand:Addr
 d__law_hand:FuncData
 _law_hand:RW.At K mg "_law_hand" za5 zbz a__law_hand d__law_hand
 a__law_take:Addr
 d__law_take:FuncData
 _law_take:RW.At K mg "_law_take" za1 zN a__law_take d__law_take
 a__law_pick:Addr
 d__law_pick:FuncData
 _law_pick:RW.At K mg "_law_pick" za3 zM a__law_pick d__law_pick
 a__law_names:Addr
 d__law_names:FuncData
 _law_names:RW.At K mg "_law_names" zai zbg a__law_names d__law_names
 a__law_cond:Addr
 d__law_cond:FuncData
 _law_cond:RW.At K mg "_law_cond" za2 zbB a__law_cond d__law_cond
 a__law_conds:Addr
 d__law_conds:FuncData
 _law_conds:RW.At K mg "_law_conds" zaj zaM a__law_conds d__law_conds
 a__law_likings:Addr
 d__law_likings:FuncData
 _law_likings:RW.At K mg "_law_likings" zac zaw a__law_likings d__law_likings
 a__law_hands:Addr
 d__law_hands:FuncData
 _law_hands:RW.At K mg "_law_hands" zaK zbf a__law_hands d__law_hands
 a__law_ties:Addr
 d__law_ties:FuncData
 _law_ties:RW.At K mg "_law_ties" za6 zbG a__law_ties d__law_ties
 a__law_town:Addr
 d__law_town:FuncData
 _law_town:RW.At K mg "_law_town" zae zbE a__law_town d__law_town
 a__law_pieced:Addr
 d__law_pieced:FuncData
 _law_pieced:RW.At K mg "_law_pieced" zam zaS a__law_pieced d__law_pieced
 a__law_falls:Addr
 d__law_falls:FuncData
 _law_falls:RW.At K mg "_law_falls" zaG za7 a__law_falls d__law_falls
 a__law_goes_by:Addr
 d__law_goes_by:FuncData
 _law_goes_by:RW.At K mg "_law_goes_by" zY zat a__law_goes_by d__law_goes_by
 a__law_without:Addr
 d__law_without:FuncData
 _law_without:RW.At K mg "_law_without" z6 zaA a__law_without d__law_without
 a__law_untied:Addr
 d__law_untied:FuncData
 _law_untied:RW.At K mg "_law_untied" zR zaR a__law_untied d__law_untied
 a__law_idle:Addr
 d__law_idle:FuncData
 _law_idle:RW.At K mg "_law_idle" zaZ zbI a__law_idle d__law_idle
 a_law:Addr
 d_law:FuncData
 law:RW.At K mg "law" zb3 ziF a_law d_law
 v_MOST_LET:Value
 m_MOST_LET:mg "MOST_LET"=some v_MOST_LET
 r_MOST_LET:RelV (.int 400) v_MOST_LET
 isinstance:mg "isinstance"=none
 str:mg "str"=none
 len:mg "len"=none
 int:mg "int"=none
 tuple:mg "tuple"=none
 range:mg "range"=none
 max:mg "max"=none
 min:mg "min"=none
 sorted:mg "sorted"=none
 enumerate:mg "enumerate"=none
 zip:mg "zip"=none
 dict:mg "dict"=none
 all:mg "all"=none
 reversed:mg "reversed"=none
 repr:mg "repr"=none
 any:mg "any"=none
end K20
namespace K20
open PySem PySem.Spec PyProof.Rows L2 RW
local macro_rules | `(tactic|walk_at "cond")=> `(tactic|first|assumption|decide|omega|exact few rfl|exact .inl ⟨by decide,by decide⟩|exact .inr ⟨by decide,by decide⟩|exact .inl ⟨by omega,by omega⟩|exact .inr ⟨by omega,by omega⟩|exact⟨by omega,by omega⟩|exact⟨by assumption,by assumption⟩|exact⟨by decide,by decide,by decide⟩|exact .inr ⟨by split<;>decide,by split<;>decide⟩)
local macro_rules | `(tactic|walk_at "rd")=> `(tactic|first|with_reducible_and_instances refine⟨_,rfl,?_⟩|refine⟨_,rfl,?_⟩|refine⟨_,_,rfl,rfl,?_⟩|refine⟨_,_,_,_,rfl,rfl,SqL.of (by assumption),rfl,?_⟩|refine⟨_,_,_,_,rfl,rfl,(by assumption),rfl,?_⟩|refine .inl ⟨_,rfl,?_⟩|refine .inr ⟨_,rfl,?_⟩|refine .inl ⟨_,_,rfl, .inl (by assumption),?_⟩|refine⟨(by walk_at "cond"),?_⟩)
local macro_rules | `(tactic|walk_at "dsp")=> `(tactic|repeat' (first|exact dsp_str (by decide)|exact zm5|exact dsp_bl|exact zma|exact zmO|exact zkJ|exact dsp_dnew|exact dsp_disp rfl|exact zmC rfl (by assumption)|refine zjs ?_ ?_|refine dsp_tup ?_ ?_|refine dsp_lst' ?_|refine n_cons ?_ ?_|exact n_nil|exact v_c|exact v_var rfl|refine v_tup ?_|refine zlB ?_ ?_|refine dspl_cat ?_ ?_ ?_|exact dspl_var rfl (by assumption) (by assumption)|exact Nat.le_of_ble_eq_true rfl))
local macro_rules | `(tactic|walk_at "each")=> `(tactic|repeat' (first|exact zh0|refine List.forall_mem_append.mpr ⟨?_,?_⟩|refine List.forall_mem_cons.mpr ⟨?_,?_⟩))
section
variable{P:Program}{w:World}{K:PySem.W.Frag}{mg:Str->Option Value}{base:Heap}
def zcs:Sp:=λvs H Q _=>∃(a:Addr) (k n:Int),vs=[.ref a, .int k]/\Hand H a n/\n<2^40/\0<k/\k<1073741824/\∀d H',0<=d->d<k->Hand H' a (n+1)->Keep a H H'->Q (.int d) H'
theorem zb2(Y:Ev K mg):FnOk P w K mg base CX0 1 Y.a__law_take Y.d__law_take zN zcs:=by
 refine Y._law_take.fn.okQ c__law_take (λvs H Q E h=>?_) (λcdv A outer s H vs Q E hr h=>?_)
 ·obtain ⟨a,k,n,rfl,_⟩:=h
  rfl
 ·obtain ⟨a,k,n,rfl,⟨x,m,t,hH,m0,m1,t0,t1⟩,hn,k0,k1,q⟩:=h
  refine⟨_,(zg (zas (zI zkh (zT ix_list (qv 0) zf) zf) (zg (zB 2 c__law_take.nd (zJ zct (zT ix_list (qv 0) zf) (qv 1)))
   (zg (zd6 (zJ zf7 (zT ix_list (qv 0) zf) (qv 1)) (zi3 (qv 0) zf zdA))
   (zm (zx (qv 2))))) zS)
   (zg (zd6 (zJ zab (zT ix_list (qv 0) zf) zf) (zi3 (qv 0) zf zdA))
   (zg (zB 3 c__law_take.nd (zT ix_list (qv 0) zf))
   (zg (zB 4 c__law_take.nd (zJ zct (zJ zbk (zT ix_list (qv 0) zf) (zJ zab (zJ zab zf (zJ zbk (zJ zbk zf (qv 3)) (qv 3))) (zJ zbk zf (qv 3)))) zf))
   (zg (zB 5 c__law_take.nd (zJ zab (zJ zab (zJ zct (qv 4) zf) (zJ zbk (qv 3) zf)) zf))
   (zg (zB 4 c__law_take.nd (zJ zct (zJ zbk (qv 4) (qv 5)) zf))
   (zm (zx (zJ zct (zJ zab (zJ zf7 (qv 4) zf) (zJ zf7 (qv 4) zf)) (qv 1)))))))))),?_⟩
  repeat walk_at "rd"
  refine zbS (λhx=>?_) (λhx=>?_)
  ·repeat walk_at "rd"
   exact q _ _ (Int.emod_nonneg _ (by omega)) (Int.emod_lt_of_pos _ k0) ⟨_,m,t,zb,m0,m1,t0,by omega⟩ (Keep.upd _ _ _)
  ·refine ⟨_,rfl,a,_,_,_,rfl,rfl,SqL.of hH,rfl,_,_,rfl,rfl,_,rfl,a,_,_,_,rfl,rfl,hH,rfl,?_⟩
   have h2:upd H a (.lst [.int x, .int m, .int (t+1)]) a=some (.lst [.int x, .int m, .int (t+1)]):=zb
   repeat walk_at "rd"
   exact q _ _ (Int.emod_nonneg _ (by omega)) (Int.emod_lt_of_pos _ k0) ⟨_,m,_,zb,m0,m1,by omega,by omega⟩ (Keep.upd _ _ _)
def zbM(K:PySem.W.Frag):Sp:=λvs H Q _=>∃(a:Addr) (n:Int),Hand H a n/\n<2^40/\
 ((∃(b:Addr) (xs:List V),vs=[.ref a, .ref b]/\b≠a/\SqL K H b xs/\0<xs.length/\xs.length<1000/\∀v H',v∈xs->Hand H' a (n+1)->Keep a H H'->Q v H')\/
  (∃z:Str,vs=[.ref a, .str z]/\0<z.length/\z.length<1000/\∀c H',c∈z.cps.toList->Hand H' a (n+1)->Keep a H H'->Q (.str (one c)) H'))
theorem zb1(Y:Ev K mg):FnOk P w K mg base CX0 2 Y.a__law_pick Y.d__law_pick zM (zbM K):=by
 have G__law_take:FnOk P w K mg base CX0 1 Y.a__law_take Y.d__law_take zN zcs:=zb2 Y
 refine Y._law_pick.fn.okQ zgW (λvs H Q E h=>?_) (λcdv A outer s H vs Q E hr h=>?_)
 ·obtain ⟨a,n,_,_,⟨b,xs,rfl,_⟩|⟨z,rfl,_⟩⟩:=h<;>rfl
 ·obtain ⟨a,n,hH,hn,h⟩:=h
  have hl:∀m:Nat,m<1000->m<=sizeLine:=λm h=>Nat.le_of_lt (zn (Nat.le_of_lt h))
  rcases h with⟨b,xs,rfl,hb,hS,x0,x1,q⟩|⟨z,rfl,z0,z1,q⟩
  ·refine ⟨_,(zm (zx (zT zkZ (qv 1) (zj G__law_take (hr.mono (by decide)) Y._law_take.mg Y._law_take.kp Y._law_take.b .nil zo (za (qv 0) (za (zz z8 Y.len zbs (za (qv 1) zc)) zc)))))),?_⟩
   refine⟨_,rfl,_,rfl,_,rfl, .inl ⟨b,xs,rfl, .inl hS,a,_,n,rfl,hH,hn,by omega,by omega,λd H' h0 h1 hH' kp=>?_⟩⟩
   obtain⟨v,e,hv⟩:=zet h0 h1
   exact .inl ⟨b,xs,d,v,rfl,rfl,kp.sqL hb hS,e,q v H' hv hH' kp⟩
  ·refine ⟨_,(zm (zx (zT zkZ (qv 1) (zj G__law_take (hr.mono (by decide)) Y._law_take.mg Y._law_take.kp Y._law_take.b .nil zo (za (qv 0) (za (zz z8 Y.len zbs (za (qv 1) zc)) zc)))))),?_⟩
   refine⟨_,rfl,_,rfl,_,rfl, .inr ⟨z,rfl,hl _ z1,a,_,n,rfl,hH,hn,by omega,by omega,λd H' h0 h1 hH' kp=>?_⟩⟩
   obtain⟨c,e,hc⟩:=zet (xs:=z.cps.toList) h0 (by simpa[Str.length] using h1)
   exact .inr (.inr ⟨z,d,c,rfl,rfl,hl _ z1,e,q c H' hc hH' kp⟩)
def zlp(K:PySem.W.Frag):Sp:=λvs H Q _=>∃(b:Addr) (ns:List Int) (k:Int),vs=[.ref b, .int k]/\SqL K H b (ns.map V.int)/\0<=k/\k<1000/\∀a H',H a=none->Hand H' a 0->Same H H'->Q (.ref a) H'
theorem zmp(Y:Ev K mg):FnOk P w K mg base CX0 1 Y.a__law_hand Y.d__law_hand zbz (zlp K):=by
 refine Y._law_hand.fn.okQ c__law_hand (λvs H Q E h=>?_) (λcdv A outer s H vs Q E hr h=>?_)
 ·obtain ⟨a,k,n,rfl,_⟩:=h
  rfl
 ·obtain ⟨b,ns,k,rfl,hS,k0,k1,q⟩:=h
  refine⟨_,(zg (zB 2 c__law_hand.nd zf)
   (zg (zas (zI zpf (qv 1) (zz z8 Y.len zbs (za (qv 0) zc))) (zm (zB 2 c__law_hand.nd (zT ix_list (qv 0) (qv 1)))) zS)
   (zm (zx (zbN (za (zJ zbk (qv 2) (zX zcZ Y.int zfQ (za (zb5 znK (qv 2) (zJ zor zf zf)) zc))) (za (zJ zab (zJ zab (zJ zct (qv 2) zf) (zJ zbk zf (qv 1))) zf) (za zf zc)))))))),?_⟩
  refine⟨_,rfl,_,rfl, .inl ⟨b,_,rfl, .inl hS,_,_,rfl,rfl,_,rfl,?_⟩⟩
  refine zbS (λhx=>?_) (λhx=>?_)
  ·have hx':k<((ns.map V.int).length:Int):=of_decide_eq_true hx
   obtain⟨v,e,hv⟩:=zet k0 hx'
   obtain⟨c,_,rfl⟩:=List.mem_map.mp hv
   refine⟨_,rfl,_,rfl,b,_,k,_,rfl,rfl,hS,e,?_⟩
   repeat walk_at "rd"
   intro p hp
   exact q p _ hp ⟨_,_,_,zb,by omega,by omega,by decide,by decide⟩ (λb' o hb'=>by rw[ze (zi hb' hp)];exact hb')
  ·repeat walk_at "rd"
   intro p hp
   exact q p _ hp ⟨_,_,_,zb,by omega,by omega,by decide,by decide⟩ (λb' o hb'=>by rw[ze (zi hb' hp)];exact hb')
end
section
variable{P:Program}{w:World}{K:PySem.W.Frag}{mg:Str->Option Value}{base:Heap}
def zg2:Sp:=λvs H Q _=>∃(a:Addr) (n:Int) (m:Nat),vs=[.ref a, .int m]/\Hand H a n/\n<2^39/\4<=m/\m<=13/\∀(l:Addr) (xs:List Str) (H':Hp),H l=none->H' l=some (.lst (xs.map V.str))->xs.length=m->(∀x∈xs,zh x=true)->xs.Nodup->(∀x∈xs,x≠"nowhere")->Hand H' a (n+4)->Keep a H H'->Q (.ref l) H'
theorem zj2(Y:Ev K mg):FnOk P w K mg base CX0 3 Y.a__law_names Y.d__law_names zbg zg2:=by
 have G__law_take:FnOk P w K mg base CX0 1 Y.a__law_take Y.d__law_take zN zcs:=zb2 Y
 have G__law_pick:FnOk P w K mg base CX0 2 Y.a__law_pick Y.d__law_pick zM (zbM K):=zb1 Y
 refine Y._law_names.fn.okQ c__law_names (λvs H Q E h=>?_) (λcdv A outer s H vs Q E hr h=>?_)
 ·obtain ⟨a,n,m,rfl,_⟩:=h;rfl
 ·obtain ⟨a,n,m,rfl,hH,hn,m4,m13,q⟩:=h
  refine⟨_,(zg (zcm 2 c__law_names.nd zav)
   (zg (zcm 3 c__law_names.nd (zj G__law_take (hr.mono (by decide)) Y._law_take.mg Y._law_take.kp Y._law_take.b .nil zo (za (qv 0) (za zf zc))))
   (zg (zcm 4 c__law_names.nd (zj G__law_pick (hr.mono (by decide)) Y._law_pick.mg Y._law_pick.kp Y._law_pick.b .nil zo (za (qv 0) (za (zev [V.int 1,V.int 3,V.int 5,V.int 7,V.int 9,V.int 11] (by decide +kernel)) zc))))
   (zg (zdQ 5 (src:=[none,some 3,some 2,some 4]) o__law_names_1 rfl rfl c__law_names.nd (zdi Y.range (za (qv 1) zc)) (λ_ _ _ _ _=>(zt 0 o__law_names_1.nd)) (λ_ _ _ _ _=>zbW) (λ_ _ _ _ _=>(zJ zhh (zT zkM (qc 2) (zJ zct (zJ zab (qc 1) (zJ zbk (qc 3) (qv 0))) zf)) (zJ zab zf (zJ zct (zJ zab (zJ zbk (qv 0) (qv 0)) (qc 1)) zf)))))
   (ziP (zas (zI zak (zj G__law_take (hr.mono (by decide)) Y._law_take.mg Y._law_take.kp Y._law_take.b .nil zo (za (qv 0) (za zf zc))) zf) (zg (zB 6 c__law_names.nd (zev [V.str "goal",V.str "to",V.str "by",V.str "houses",V.str "tie",V.str "like",V.str "hand",V.str "keep",V.str "put",V.str "mark",V.str "long",V.str "from",V.str "strike"] (by decide +kernel)))
   (zg (zB 7 c__law_names.nd (zj G__law_take (hr.mono (by decide)) Y._law_take.mg Y._law_take.kp Y._law_take.b .nil zo (za (qv 0) (za zf zc))))
   (zm (zbx PassesOwn.never rfl (zdi Y.range (za (zz (zfC rfl) Y.min zf6 (za (qv 1) (za zf zc))) zc)) (zt 8 c__law_names.nd) (zm (zd6 (zT ix_list (qv 6) (zJ zct (zJ zab (qv 7) (zJ zbk zf (qv 8))) zf)) (zi3 (qv 5) (qv 8) zdA))))))) zS)
   (zm (zx (qv 5)))))))),?_⟩
  refine⟨_,rfl,a,26,n,rfl,hH,by omega,by decide,by decide,λf' H1 f0 f26 hH1 k1=>?_⟩
  obtain⟨f,rfl⟩:∃f:Nat,f'=(f:Int):=⟨f'.toNat,by omega⟩
  refine⟨_,rfl,by decide,λpl hpl=>⟨a,n+1,hH1.new hpl,by omega, .inl ⟨pl,_,rfl,hH1.ne hpl,SqL.of zb,by decide,by decide,λv H2 hv hH2 k2=>?_⟩⟩⟩
  obtain⟨st,rfl,st0,st11⟩:∃st:Nat,v= .int (st:Int)/\st∈zkq/\st<=11:=by
   simp only[List.mem_cons,List.not_mem_nil,or_false] at hv
   rcases hv with rfl|rfl|rfl|rfl|rfl|rfl
   ·exact ⟨1,rfl,by decide,by decide⟩
   ·exact ⟨3,rfl,by decide,by decide⟩
   ·exact ⟨5,rfl,by decide,by decide⟩
   ·exact ⟨7,rfl,by decide,by decide⟩
   ·exact ⟨9,rfl,by decide,by decide⟩
   ·exact ⟨11,rfl,by decide,by decide⟩
  have kp2:Keep a H H2:=k1.trans ((Keep.new hpl).trans k2)
  refine⟨_,rfl,m,rfl,by omega,by omega,?_⟩
  refine zba zcA (λl i ys σ' H'=>(∃o,σ'=[o,some (.int (f:Int)),some (.str lettersS),some (.int (st:Int))])/\ys=((List.range i).map (nmS f st)).map V.str/\Hand H' a (n+1+1)/\Keep a H2 H') ?_ (λ_ _ _ _ _ _ _=>trivial) ?_ ?_
  ·exact λl hl=>⟨⟨_,rfl⟩,rfl,hH2.new hl,Keep.new hl⟩
  ·rintro l i y ys σ' H' hl hi rfl ⟨⟨o,rfl⟩,rfl,hH',k'⟩ hl'
   have hi13:i<13:=by have:i<m:=by omega
                      omega
   have hr26:(f+st*i)%26<26:=Nat.mod_lt _ (by decide)
   have ei:((f:Int)+(st:Int)*(0+(i:Int)))%26=(((f+st*i)%26:Nat):Int):=by rw[Int.zero_add];push_cast;rfl
   have ec:atI lettersS.cps.toList (((f:Int)+(st:Int)*(0+(i:Int)))%26)=some (97+(f+st*i)%26):=by
    rw[ei];exact zU (zeL _ (List.mem_range.mpr hr26))
   have en:(1+((0+(i:Int))*(0+(i:Int))+(f:Int))%8)=((1+(i*i+f)%8:Nat):Int):=by rw[Int.zero_add];push_cast;rfl
   have g8:(i*i+f)%8<8:=Nat.mod_lt _ (by decide)
   refine⟨_,rfl,_,rfl,_,rfl,_,rfl,_,_,rfl,rfl, .inl ⟨by omega,by omega⟩,_,_,rfl,rfl,_,_,rfl,rfl,(by decide:(0:Int)<26),lettersS,_,_,rfl,rfl,by rw[zgK];decide,ec,_,rfl,_,rfl,_,_,rfl,rfl, .inl ⟨by omega,by omega⟩,_,rfl,_,_,rfl,rfl,_,_,rfl,rfl,(by decide:(0:Int)<8),_,_,rfl,rfl,one (97+(f+st*i)%26),_,rfl,rfl,by rw[en];omega,by rw[en];omega,by rw[zi9];decide,by rw[zi9];decide,?_⟩
   have nl:=hH2.ne hl
   refine⟨hl',?_,⟨_,rfl⟩,?_,hH'.updNe nl,k'.updNew hl⟩
   ·rw[List.length_map,List.length_map,List.length_range];exact zn (by omega)
   ·rw[en,Int.toNat_natCast,List.range_succ,List.map_append,List.map_append];rfl
  ·rintro l ys σ' H3 hl ⟨⟨o,rfl⟩,rfl,hH3,k3⟩ hl'
   have nl:=hH2.ne hl
   rw[Int.toNat_natCast] at hl'
   have e0:(List.range m).map (nmS f st)=(List.range m).map (zbc f st 0 0):=by
    apply List.map_congr_left
    intro k _
    unfold zbc
    rw[if_neg (by omega)]
   have hln:H l=none:=by
    cases e:H l with
    |none=>rfl
    |some o=>exact absurd (kp2 l o nl e) (by rw[hl];exact λz=>nomatch z)
   refine⟨λσ' H'=>(∃o6 o7 o8,σ'=[some (.ref a),some (.int m),some (.str lettersS),some (.int (f:Int)),some (.int (st:Int)),some (.ref l),o6,o7,o8])/\(∃sp j:Nat,H' l=some (.lst (((List.range m).map (zbc f st sp j)).map V.str))/\sp<13/\j<=4)/\Hand H' a (n+4)/\Keep a H H',?_,?_⟩
   ·refine ⟨_,rfl,a,6,n+1+1,rfl,hH3,by omega,by decide,by decide,λd H4 d0 d6 hH4 k4=>⟨rfl,_,rfl,zbS (λ_=>?_) (λ_=>?_)⟩⟩
    ·have hl4:=k4 _ _ nl hl'
     have kp4:Keep a H H4:=(kp2.trans k3).trans k4
     refine⟨by decide,λpk hpk=>?_⟩
     have npl:pk≠l:=λz=>by rw[z,hl4] at hpk;cases hpk
     have npa:=hH4.ne hpk
     refine⟨_,rfl,a,13,n+1+1+1,rfl,hH4.new hpk,by omega,by decide,by decide,λsp' H5 sp0 sp13 hH5 k5=>?_⟩
     obtain⟨sp,rfl⟩:∃f:Nat,sp'=(f:Int):=⟨sp'.toNat,by omega⟩
     refine⟨_,rfl,_,_,rfl,_,rfl,?_,?_,?_⟩
     ·split<;>omega
     ·split<;>omega
     have e4:(if(4:Int)<(m:Int)then(4:Int)else(m:Int)).toNat=4:=by split<;>omega
     rw[e4]
     refine za9 zcA (λi σ' H'=>(∃o8,σ'=[some (.ref a),some (.int m),some (.str lettersS),some (.int (f:Int)),some (.int (st:Int)),some (.ref l),some (.ref pk),some (.int (sp:Int)),o8])/\H' l=some (.lst (((List.range m).map (zbc f st sp i)).map V.str))/\Hand H' a (n+4)/\Keep a H H'/\H' pk=some (.lst (keptL.map V.str))) ?_ (λ_ _ _ _=>trivial) ?_ ?_
     ·refine ⟨⟨_,rfl⟩,?_,hH5.mono (by omega),kp4.trans ((Keep.new hpk).trans k5),k5 _ _ npa zb⟩
      have e0':(List.range m).map (nmS f st)=(List.range m).map (zbc f st sp 0):=by
       apply List.map_congr_left
       intro k _
       unfold zbc
       rw[if_neg (by omega)]
      rw[←e0']
      exact k5 _ _ nl (by rw[ze (Ne.symm npl)];exact hl4)
     ·rintro i y σ' H6 hi4 rfl ⟨⟨o8,rfl⟩,hz,hH6,k6,hp6⟩
      have ek:((sp:Int)+3*(0+(i:Int)))%13=(((sp+3*i)%13:Nat):Int):=by rw[Int.zero_add];push_cast;rfl
      have ev:atI (keptL.map V.str) (((sp:Int)+3*(0+(i:Int)))%13)=some (.str (kwS sp i)):=by
       rw[ek];exact zU (by rw[List.getElem?_map,zmA];rfl)
      have hix:ixN (((List.range m).map (zbc f st sp i)).map V.str).length (0+(i:Int))=some i:=by
       unfold ixN
       rw[if_pos (by omega),if_pos (by rw[List.length_map,List.length_map,List.length_range];omega)]
       congr 1
       omega
      refine⟨_,rfl,_,rfl,_,rfl,_,_,rfl,rfl, .inl ⟨by decide,by decide⟩,_,_,rfl,rfl,_,_,rfl,rfl,(by decide:(0:Int)<13),pk,_,_,_,rfl,rfl,SqL.of hp6,ev,_,rfl,_,rfl,l,_,_,i,rfl,rfl,hz,hix,?_⟩
      refine⟨⟨_,rfl⟩,?_,hH6.updNe nl,k6.updNew hln,by rw[ze npl];exact hp6⟩
      rw[zb,←List.map_set,zkf (by omega)]
     ·rintro σ' H6 ⟨⟨o8,rfl⟩,hz,hH6,k6,_⟩
      exact⟨⟨_,_,_,rfl⟩,⟨sp,4,hz,by omega,by decide⟩,hH6,k6⟩
    ·rw[e0] at hl'
     exact⟨⟨_,_,_,rfl⟩,⟨0,0,k4 _ _ nl hl',by decide,by decide⟩,hH4.mono (by omega),(kp2.trans k3).trans k4⟩
   ·rintro σ' H' ⟨⟨o6,o7,o8,rfl⟩,⟨sp,j,hz,hsp,hj⟩,hH',k'⟩
    refine⟨_,rfl,q l _ H' hln hz (by rw[List.length_map,List.length_range]) (λx hx=>?_) (zg5 (by omega) st0 hsp hj m13) (λx hx=>?_) hH' k'⟩
    ·obtain ⟨k,_,rfl⟩:=List.mem_map.mp hx
     exact zmU _ _ _ _ _
    ·obtain ⟨k,_,rfl⟩:=List.mem_map.mp hx
     exact zjo _ _ _ _ _
end
section
variable{P:Program}{w:World}{K:PySem.W.Frag}{mg:Str->Option Value}{base:Heap}
def NL(O:List Str)(H:Hp)(l:Addr):Prop:=∃xs:List Str,H l=some (.lst (xs.map V.str))/\0<xs.length/\xs.length<=100/\∀x∈xs,zh x=true/\x∈O
theorem NL.keep{O:List Str}{H H':Hp}{a l:Addr}(h:NL O H l)(k:Keep a H H')(n:l≠a):NL O H' l:=let⟨xs,e,r⟩:=h;⟨xs,k _ _ n e,r⟩
theorem NL.same{O:List Str}{H H':Hp}{l:Addr}(h:NL O H l)(k:Same H H'):NL O H' l:=let⟨xs,e,r⟩:=h;⟨xs,k _ _ e,r⟩
theorem zcg{O:List Str}{H:Hp}{a l:Addr}{n:Int}{Q:VK}(hH:Hand H a n)(hn:n<2^40)(hl:NL O H l)(hla:l≠a)(q:∀x H',(zh x=true/\x∈O)->Hand H' a (n+1)->Keep a H H'->Q (.str x) H'):zbM K [.ref a, .ref l] H Q E0:=by
 obtain⟨xs,e,x0,x1,hx⟩:=hl
 refine⟨a,n,hH,hn, .inl ⟨l,_,rfl,hla,SqL.of e,by rw[List.length_map];exact x0,by rw[List.length_map];omega,λv H' hv hH' k'=>?_⟩⟩
 obtain⟨x,hxx,rfl⟩:=List.mem_map.mp hv
 exact q x H' (hx x hxx) hH' k'
theorem zC{x:Str}(h:zh x=true):x.length<=1000:=by
 unfold zh at h
 simp only[Bool.and_eq_true,decide_eq_true_eq] at h
 omega
theorem zdo{y x:Str}(hy:y∈namingL)(hx:zh x=true):zE (.tup [.str y, .str x])=true:=by
 have h1:¬y="long":=by
  intro z
  subst z
  revert hy
  decide +kernel
 have h2:(namingL.any λz=>decide (z=y))=true:=List.any_eq_true.mpr ⟨y,hy,decide_eq_true rfl⟩
 rw[zdw,if_neg h1,h2,zhb,hx];rfl
theorem zhM{d:D}(h:zE d=true):zL d=true:=by
 obtain⟨x,e,rfl⟩:=zcw d h
 by_cases hx:x="not"
 ·subst hx;rw[zcU] at h;cases h
 ·rw[zer,if_neg hx];exact h
theorem zic{d:D}(h:zE d=true)(ha:zd3 d=false):zdD d=false:=by
 obtain⟨x,e,rfl⟩:=zcw d h
 by_cases hx:x="not"
 ·subst hx;rw[zcU] at h;cases h
 ·show (if x="not"then zd3 e else decide (x="to"))=false
  rw[if_neg hx];exact ha
def zlP:Sp:=λvs H Q _=>∃(a h m:Addr) (n:Int) (to:Bool) (O:List Str),vs=[.ref a, .ref h, .ref m, .bl to]/\Hand H a n/\n<2^39/\NL O H h/\NL O H m/\h≠a/\m≠a/\∀v d H',Rep H' v d->(zL d=true/\zaa O d=true)->(to=false->zdD d=false)->Hand H' a (n+4)->Keep a H H'->Q v H'
theorem zmu(Y:Ev K mg):FnOk P w K mg base CX0 3 Y.a__law_cond Y.d__law_cond zbB zlP:=by
 have G__law_take:FnOk P w K mg base CX0 1 Y.a__law_take Y.d__law_take zN zcs:=zb2 Y
 have G__law_pick:FnOk P w K mg base CX0 2 Y.a__law_pick Y.d__law_pick zM (zbM K):=zb1 Y
 refine Y._law_cond.fn.okQ c__law_cond (λvs H Q E h=>?_) (λcdv A outer s H vs Q E hr h=>?_)
 ·obtain ⟨a,h,m,n,to,O,rfl,_⟩:=h;rfl
 ·obtain ⟨a,h,m,n,to,O,rfl,hH,hn,hh,hm,nh,nm,q⟩:=h
  refine⟨_,(zg (zB 4 c__law_cond.nd (zj G__law_take (hr.mono (by decide)) Y._law_take.mg Y._law_take.kp Y._law_take.b .nil zo (za (qv 0) (za (zJ zab zf (zX zcZ Y.int zfQ (za (qv 3) zc))) zc))))
   (zg (zB 5 c__law_cond.nd (zD (za zav (za (zj G__law_pick (hr.mono (by decide)) Y._law_pick.mg Y._law_pick.kp Y._law_pick.b .nil zo (za (qv 0) (za (qv 1) zc))) zc))))
   (ziP (zas (t_w (zmQ (zI zak (qv 4) zf) (ziC (zI zak (qv 4) zf)))) (zm (zB 5 c__law_cond.nd (zD (za zav (za (zj G__law_pick (hr.mono (by decide)) Y._law_pick.mg Y._law_pick.kp Y._law_pick.b .nil zo (za (qv 0) (za (qv 1) zc))) zc))))) (zm (zas (zI zak (qv 4) zf) (zm (zB 5 c__law_cond.nd (zD (za zav (za (zj G__law_pick (hr.mono (by decide)) Y._law_pick.mg Y._law_pick.kp Y._law_pick.b .nil zo (za (qv 0) (za (zev [V.int 0,V.int 1,V.int 2,V.int 3,V.int 4,V.int 99] (by decide +kernel)) zc))) zc))))) (zm (zas (zI zak (qv 4) zf) (zm (zB 5 c__law_cond.nd (zD (za zav (za (zj G__law_pick (hr.mono (by decide)) Y._law_pick.mg Y._law_pick.kp Y._law_pick.b .nil zo (za (qv 0) (za (qv 2) zc))) zc))))) (zm (zas (zI zak (qv 4) zf) (zm (zB 5 c__law_cond.nd (zD (za zav (za (zj G__law_pick (hr.mono (by decide)) Y._law_pick.mg Y._law_pick.kp Y._law_pick.b .nil zo (za (qv 0) (za (qv 1) zc))) zc))))) zS)))))))
   (ziP (zas (zI zak (zj G__law_take (hr.mono (by decide)) Y._law_take.mg Y._law_take.kp Y._law_take.b .nil zo (za (qv 0) (za zf zc))) zf) (zm (zB 5 c__law_cond.nd (zD (za zav (za (qv 5) zc))))) zS)
   (zm (zx (qv 5))))))),?_⟩
  refine⟨_,rfl,_,rfl, .inr ⟨to,rfl,_,_,rfl,rfl,a,_,n,rfl,hH,by omega,by split<;>omega,by split<;>omega,λt H1 t0 t5 hH1 k1=>?_⟩⟩
  refine⟨_,rfl,_,rfl,zcg hH1 (by omega) (hh.keep k1 nh) nh λx H2 hx hH2 k2=>⟨few rfl,λp2 hp2=>?_⟩⟩
  have mk2:∀{H0:Hp} {p:Addr} {y x:Str},y.length<=1000->(zh x=true/\x∈O)->Rep (upd H0 p (.tup [.str y, .str x])) (.ref p) (.tup [.str y, .str x]):=λhy hx=> .mk2 zb (.str _ hy) (.str _ (zC hx.1))
  have hh2:NL O (upd H2 p2 (.tup [.str "by", .str x])) h:=((hh.keep k1 nh).keep k2 nh).same (Same.new hp2)
  have hm2:NL O (upd H2 p2 (.tup [.str "by", .str x])) m:=((hm.keep k1 nm).keep k2 nm).same (Same.new hp2)
  have hH2':=hH2.new (o:= .tup [.str "by", .str x]) hp2
  have kp2:Keep a H (upd H2 p2 (.tup [.str "by", .str x])):=(k1.trans k2).trans (Keep.new hp2)
  refine⟨λσ' H'=>∃v d,σ'=[some (.ref a),some (.ref h),some (.ref m),some (.bl to),some (.int t),some v]/\Rep H' v d/\(zE d=true/\zu O d=true)/\(to=false->zd3 d=false)/\Hand H' a (n+3)/\Keep a H H',?_,?_⟩
  ·have ap:∀{y x:Str},¬y="to"->zd3 (.tup [.str y, .str x])=false:=λh=>decide_eq_false h
   have br:∀{y:Str},y.length<=1000->y∈namingL->¬y="to"->∀(l:Addr),l≠a->NL O (upd H2 p2 (.tup [.str "by", .str x])) l->∀R:V->Hp->Prop,(∀v d H',Rep H' v d->(zE d=true/\zu O d=true)->(to=false->zd3 d=false)->Hand H' a (n+3)->Keep a H H'->R v H')->
    zbM K [.ref a, .ref l] (upd H2 p2 (.tup [.str "by", .str x])) (λv H3=> [V.str y,v].length<=sizeLine/\∀p,H3 p=none->R (.ref p) (upd H3 p (.tup [V.str y,v]))) E0:=by
    intro y hy hyn hyt l nl hl R hR
    refine zcg hH2' (by omega) hl nl λx3 H3 hx3 hH3 k3=>⟨few rfl,λp3 hp3=>?_⟩
    exact hR _ _ _ (mk2 hy hx3) ⟨zdo hyn hx3.1,zbD hx3.2⟩ (λ_=>ap hyt) ((hH3.new hp3).mono (by omega)) ((kp2.trans k3).trans (Keep.new hp3))
   have fin:∀v d H',Rep H' v d->(zE d=true/\zu O d=true)->(to=false->zd3 d=false)->Hand H' a (n+3)->Keep a H H'->(λ(v:V) (H':Hp)=>∃v0 d,[some (V.ref a),some (.ref h),some (.ref m),some (.bl to),some (.int t),some v]=[some (.ref a),some (.ref h),some (.ref m),some (.bl to),some (.int t),some v0]/\Rep H' v0 d/\(zE d=true/\zu O d=true)/\(to=false->zd3 d=false)/\Hand H' a (n+3)/\Keep a H H') v H':=
    λv d H' h1 h2 h3 h4 h5=>⟨v,d,rfl,h1,h2,h3,h4,h5⟩
   refine⟨_,rfl,rfl,_,rfl,zbS (λ_=>?_) (λ_=>⟨_,rfl,rfl,_,rfl,zbS (λ_=>?_) (λ_=>?_)⟩)⟩
   ·exact ⟨_,rfl,_,rfl,br (by decide) (by decide) (by decide +kernel) h nh hh2 _ fin⟩
   ·exact ⟨_,rfl,_,rfl,br (by decide) (by decide) (by decide +kernel) h nh hh2 _ fin⟩
   refine⟨_,rfl,rfl,_,rfl,zbS (λ_=>?_) (λ_=>⟨_,rfl,rfl,_,rfl,zbS (λ_=>?_) (λ_=>⟨_,rfl,rfl,_,rfl,zbS (λh5=>?_) (λ_=>?_)⟩)⟩)⟩
   ·refine ⟨_,rfl,by decide,λpl hpl=>⟨a,n+2,(hH2'.mono (by omega)).new hpl,by omega, .inl ⟨pl,_,rfl,hH2'.ne hpl,SqL.of zb,by decide,by decide,λv H3 hv hH3 k3=>⟨few rfl,λp3 hp3=>?_⟩⟩⟩⟩
    have hk:∃j:Int,v= .int j/\0<=j/\j<=99:=by
     simp only[List.mem_cons,List.not_mem_nil,or_false] at hv
     rcases hv with rfl|rfl|rfl|rfl|rfl|rfl<;>exact ⟨_,rfl,by decide,by decide⟩
    obtain⟨j,rfl,j0,j9⟩:=hk
    refine fin _ (.tup [.str "long", .int j]) _ (.mk2 zb (.str _ (by decide)) (.int _)) ?_ (λ_=>(by decide +kernel:decide (("long":Str)="to")=false)) ((hH3.new hp3).mono (by omega)) ((kp2.trans ((Keep.new hpl).trans k3)).trans (Keep.new hp3))
    refine⟨?_,rfl⟩
    rw[zdw,if_pos rfl]
    show(decide (0<=j)&&decide (j<=99))=true
    rw[decide_eq_true j0,decide_eq_true j9];rfl
   ·exact ⟨_,rfl,_,rfl,br (by decide) (by decide) (by decide +kernel) m nm hm2 _ fin⟩
   ·refine ⟨_,rfl,_,rfl,zcg hH2' (by omega) hh2 nh λx3 H3 hx3 hH3 k3=>⟨few rfl,λp3 hp3=>?_⟩⟩
    refine fin _ _ _ (mk2 (by decide) hx3) ⟨zdo (by decide) hx3.1,zbD hx3.2⟩ (λz=>?_) ((hH3.new hp3).mono (by omega)) ((kp2.trans k3).trans (Keep.new hp3))
    subst z
    have e5:t=5:=V.int.inj (of_decide_eq_true h5)
    simp at t5
    omega
   ·exact fin _ _ _ (mk2 (by decide) hx) ⟨zdo (by decide) hx.1,zbD hx.2⟩ (λ_=>ap (by decide +kernel)) (hH2'.mono (by omega)) kp2
  ·rintro σ' H3 ⟨v,d,rfl,hv,hd,hto,hH3,k3⟩
   refine⟨λσ' H'=>∃v d,σ'=[some (.ref a),some (.ref h),some (.ref m),some (.bl to),some (.int t),some v]/\Rep H' v d/\(zL d=true/\zaa O d=true)/\(to=false->zdD d=false)/\Hand H' a (n+4)/\Keep a H H',?_,?_⟩
   ·refine ⟨_,rfl,a,4,n+3,rfl,hH3,by omega,by decide,by decide,λd4 H4 _ _ hH4 k4=>⟨rfl,_,rfl,zbS (λ_=>?_) (λ_=>?_)⟩⟩
    ·have hv4:=hv.mono (Mono.keep k4 hH3 hH4)
     refine⟨_,rfl,few rfl,λp5 hp5=>⟨_, .tup [.str "not",d],rfl, .mk2 zb (.str _ (by decide)) (hv4.mono (.new hp5)),?_,?_,(hH4.new hp5).mono (by omega),(k3.trans k4).trans (Keep.new hp5)⟩⟩
     ·exact ⟨by rw[zer,if_pos rfl];exact hd.1,zhZ hd.2⟩
     ·exact λz=>hto z
    ·refine ⟨_,d,rfl,hv.mono (Mono.keep k4 hH3 hH4),⟨zhM hd.1,zj4 hd.1 hd.2⟩,λz=>zic hd.1 (hto z),hH4.mono (by omega),k3.trans k4⟩
   ·rintro σ' H4 ⟨v,d,rfl,hv,hd,hto,hH4,k4⟩
    exact⟨_,rfl,q v d H4 hv hd hto hH4 k4⟩
end
section
variable{P:Program}{w:World}{K:PySem.W.Frag}{mg:Str->Option Value}{base:Heap}
theorem zhl{ds:List D}(hl:ds.length<=4)(h:∀d∈ds,zL d=true):zW (.tup ds)=true:=by
 rw[zgH,decide_eq_true hl,List.all_eq_true.mpr h];rfl
theorem zeN{α:Type}{P:α->Prop}{ds:List α}(h:∀(i:Nat) (d:α),ds[i]?=some d->P d):∀d∈ds,P d:=λd hd=>by
 obtain⟨i,hi,e⟩:=List.getElem_of_mem hd
 exact h i d (by rw[List.getElem?_eq_getElem hi,e])
def zfL:Sp:=λvs H Q _=>∃(a h m:Addr) (n:Int) (to:Bool) (O:List Str),vs=[.ref a, .ref h, .ref m, .bl to]/\Hand H a n/\n<2^38/\NL O H h/\NL O H m/\h≠a/\m≠a/\∀v ds H',Rep H' v (.tup ds)->ds.length<=4->(∀d∈ds,zL d=true)->(∀d∈ds,zaa O d=true)->(to=false->∀d∈ds,zdD d=false)->Hand H' a (n+17)->Keep a H H'->Q v H'
theorem zgS(Y:Ev K mg):FnOk P w K mg base CX0 4 Y.a__law_conds Y.d__law_conds zaM zfL:=by
 have G__law_pick:FnOk P w K mg base CX0 2 Y.a__law_pick Y.d__law_pick zM (zbM K):=zb1 Y
 have G__law_cond:FnOk P w K mg base CX0 3 Y.a__law_cond Y.d__law_cond zbB zlP:=zmu Y
 refine Y._law_conds.fn.okQ c__law_conds (λvs H Q E h=>?_) (λcdv A outer s H vs Q E hr h=>?_)
 ·obtain ⟨a,h,m,n,to,O,rfl,_⟩:=h;rfl
 ·obtain ⟨a,h,m,n,to,O,rfl,hH,hn,hh,hm,nh,nm,q⟩:=h
  refine⟨_,(zg (zB 4 c__law_conds.nd (zj G__law_pick (hr.mono (by decide)) Y._law_pick.mg Y._law_pick.kp Y._law_pick.b .nil zo (za (qc 0) (za (zev [V.int 1,V.int 1,V.int 1,V.int 2,V.int 0,V.int 4] (by decide +kernel)) zc))))
   (zm (zx (zX zG Y.tuple zax (za (zaT (src:=[none,some 0,some 1,some 2,some 3]) o__law_conds_1 rfl rfl (zdi Y.range (za (qv 4) zc)) (λ_ _ _ _ _=>(zt 0 o__law_conds_1.nd)) (λ_ _ _ _ _=>zbW) (λ_ _ _ _ _=>(zj G__law_cond (hr.mono (by decide)) Y._law_cond.mg Y._law_cond.kp Y._law_cond.b .nil zo (za (qc 1) (za (qc 2) (za (qc 3) (za (qc 4) zc))))))) zc))))),?_⟩
  refine⟨_,rfl,by decide,λpl hpl=>⟨a,n,hH.new hpl,by omega, .inl ⟨pl,_,rfl,hH.ne hpl,SqL.of zb,by decide,by decide,λv H1 hv hH1 k1=>?_⟩⟩⟩
  obtain⟨c,rfl,c4⟩:∃c:Nat,v= .int (c:Int)/\c<=4:=by
   simp only[List.mem_cons,List.not_mem_nil,or_false] at hv
   rcases hv with rfl|rfl|rfl|rfl|rfl|rfl
   ·exact ⟨1,rfl,by decide⟩
   ·exact ⟨1,rfl,by decide⟩
   ·exact ⟨1,rfl,by decide⟩
   ·exact ⟨2,rfl,by decide⟩
   ·exact ⟨0,rfl,by decide⟩
   ·exact ⟨4,rfl,by decide⟩
  have kp1:Keep a H H1:=(Keep.new hpl).trans k1
  have hh1:=(hh.same (Same.new (o:= .lst [V.int 1,V.int 1,V.int 1,V.int 2,V.int 0,V.int 4]) hpl)).keep k1 nh
  have hm1:=(hm.same (Same.new (o:= .lst [V.int 1,V.int 1,V.int 1,V.int 2,V.int 0,V.int 4]) hpl)).keep k1 nm
  refine⟨_,rfl,c,rfl,by omega,by omega,?_⟩
  rw[Int.toNat_natCast]
  refine zif (a:=a) (m:=n+1) (c:=4) (Pd:=λ_ d=>(zL d=true/\zaa O d=true)/\(to=false->zdD d=false)) (σr:=[some (.ref a),some (.ref h),some (.ref m),some (.bl to)]) rfl hH1 (by omega) (by decide) (λj H2 Q1 hj hH2 k2 q1=>?_) (λl vs ds H2 hl hl2 r2 hds pd hH2 k2=>?_)
  ·exact ⟨_,rfl,_,rfl,_,rfl,_,rfl,a,h,m,_,to,O,rfl,hH2,by omega,hh1.keep k2 nh,hm1.keep k2 nm,nh,nm,λv d H3 rv hc ht hH3 k3=>q1 v d H3 rv ⟨hc,ht⟩ hH3 k3⟩
  ·refine ⟨l,vs,rfl, .inl ⟨SqL.of hl2,λp hp=>?_⟩⟩
   have pd':=zeN (P:=λd=>(zL d=true/\zaa O d=true)/\(to=false->zdD d=false)) pd
   exact q _ ds _ (.mkL zb (by omega) (r2.mono (.new hp))) (by omega) (λd hd=>(pd' d hd).1.1) (λd hd=>(pd' d hd).1.2) (λz d hd=>(pd' d hd).2 z) ((hH2.new hp).mono (by omega)) ((kp1.trans k2).trans (Keep.new hp))
def znw(g:D->Bool)(H':Hp)(ls:Addr)(i:Nat):Prop:=∃(zs:List V) (ds:List D),H' ls=some (.lst zs)/\RepL H' zs ds/\ds.length=i/\∀d∈ds,g d=true
def zep(g:List Str->D->Bool):Sp:=λvs H Q _=>∃(a h m:Addr) (n:Int) (O:List Str),vs=[.ref a, .ref h, .ref m]/\Hand H a n/\n<2^37/\NL O H h/\NL O H m/\h≠a/\m≠a/\∀v ds H',Rep H' v (.tup ds)->ds.length<=12->(∀d∈ds,g O d=true)->Hand H' a (n+400)->Keep a H H'->Q v H'
theorem zjp{ds:List D}{x:D}(hl:ds.length<=4)(h:∀d∈ds,zL d=true)(ha:∀d∈ds,zdD d=false)(hx:zad x=true):zQ (.tup [.tup ds,x])=true:=by
 rw[zjC,zhl hl h,hx]
 have:zcl (.tup ds)=false:=by
  show ds.any zdD=false
  rw[List.any_eq_false]
  exact λd hd z=>by rw[ha d hd] at z;cases z
 rw[this];rfl
theorem zie(Y:Ev K mg):FnOk P w K mg base CX0 5 Y.a__law_likings Y.d__law_likings zaw (zep zf8):=by
 have G__law_take:FnOk P w K mg base CX0 1 Y.a__law_take Y.d__law_take zN zcs:=zb2 Y
 have G__law_pick:FnOk P w K mg base CX0 2 Y.a__law_pick Y.d__law_pick zM (zbM K):=zb1 Y
 have G__law_conds:FnOk P w K mg base CX0 4 Y.a__law_conds Y.d__law_conds zaM zfL:=zgS Y
 refine Y._law_likings.fn.okQ c__law_likings (λvs H Q E h=>?_) (λcdv A outer s H vs Q E hr h=>?_)
 ·obtain ⟨a,h,m,n,O,rfl,_⟩:=h;rfl
 ·obtain ⟨a,h,m,n,O,rfl,hH,hn,hh,hm,nh,nm,q⟩:=h
  refine⟨_,(zg (zB 3 c__law_likings.nd (zbN zc))
   (zg (zbx PassesOwn.never rfl (zdi Y.range (za (zJ zab (zj G__law_take (hr.mono (by decide)) Y._law_take.mg Y._law_take.kp Y._law_take.b .nil zo (za (qv 0) (za zf zc))) (zJ zbk zf (zX zcZ Y.int zfQ (za (zb5 zak (zj G__law_take (hr.mono (by decide)) Y._law_take.mg Y._law_take.kp Y._law_take.b .nil zo (za (qv 0) (za zf zc))) zf) zc)))) zc)) (zt 4 c__law_likings.nd) (zg (zB 5 c__law_likings.nd (zj G__law_pick (hr.mono (by decide)) Y._law_pick.mg Y._law_pick.kp Y._law_pick.b .nil zo (za (qv 0) (za (zbN (za zf (za zf (za zf (za (zju zdW zf) (za zf (za zf (za (zju zdW zf) (za zcz zc))))))))) zc))))
   (zm (zdc (zgk PySem.F.plainAttrs_list PySem.F.slot_list_append PySem.F.type_list_append zaD (qv 3) (za (zD (za (zj G__law_conds (hr.mono (by decide)) Y._law_conds.mg Y._law_conds.kp Y._law_conds.b .nil zo (za (qv 0) (za (qv 1) (za (qv 2) (za zcb zc))))) (za (qv 5) zc))) zc))))))
   (zm (zx (zX zG Y.tuple zax (za (qv 3) zc)))))),?_⟩
  refine⟨few rfl,λls hls=>?_⟩
  have nls:=hH.ne hls
  refine⟨_,rfl,a,4,n,rfl,hH.new hls,by omega,by decide,by decide,λt H1 t0 t4 hH1 k1=>⟨_,rfl,a,8,n+1,rfl,hH1,by omega,by decide,by decide,λu H2 u0 u8 hH2 k2=>?_⟩⟩
  have hl1:H1 ls=some (.lst []):=k1 _ _ nls zb
  have hl2:H2 ls=some (.lst []):=k2 _ _ nls hl1
  have kp2:Keep a H H2:=((Keep.new hls).trans k1).trans k2
  refine⟨rfl, .inr ⟨_,rfl,_,_,rfl,rfl, .inl ⟨by decide,by decide⟩,_,_,rfl,rfl,_,rfl,?_,?_,?_⟩⟩
  ·split<;>omega
  ·split<;>omega
  have hN:(t+9*(if decide (V.int u=V.int 0)=true then(1:Int)else 0)).toNat<=12:=by split<;>omega
  generalize (t+9*(if decide (V.int u=V.int 0)=true then(1:Int)else 0)).toNat=N at *
  refine za9 zcA (λi σ' H'=>(∃o1 o2,σ'=[some (.ref a),some (.ref h),some (.ref m),some (.ref ls),o1,o2])/\znw (zf8 O) H' ls i/\Hand H' a (n+2+18*i)/\Keep a H H') ?_ (λ_ _ _ _=>trivial) ?_ ?_
  ·exact ⟨⟨_,_,rfl⟩,⟨[],[],hl2,RepL.nil,rfl,λ_ z=>nomatch z⟩,hH2.mono (by omega),kp2⟩
  ·rintro i y σ' H3 hi rfl ⟨⟨o1,o2,rfl⟩,⟨zs,ds,hz,rz,hdl,hds⟩,hH3,k3⟩
   have rz1:=rz.1
   refine⟨_,rfl,zn5 (ds:=[.int 5, .int 5, .int 1, .int (-3), .int 0, .int 999, .int (-999), .non]) (by walk_at "dsp") λl4 vs4 H4 s4 e4 r4=>?_⟩
   refine⟨a,_,hH3.same s4,by omega, .inl ⟨l4,_,rfl,zhW (hH3.same s4) e4 r4 (by decide),SqL.of e4,by rw[r4.1];decide,by rw[r4.1];decide,λv H5 hv hH5 k5=>?_⟩⟩
   obtain⟨dn,rn,hw,hwo⟩:∃dn,Rep H5 v dn/\zad dn=true/\zu O dn=true:=by
    obtain⟨j,hj,ej⟩:=List.getElem_of_mem hv
    obtain⟨d,hd,rd⟩:=r4.get (i:=j) (v:=v) (by rw[List.getElem?_eq_getElem hj,ej])
    refine⟨d,rd.mono (.keep k5 (hH3.same s4) hH5),?_⟩
    have key:∀d∈([.int 5, .int 5, .int 1, .int (-3), .int 0, .int 999, .int (-999), .non]:List D),zad d=true/\zu O d=true:=by walk_at "each"<;>exact ⟨by decide,rfl⟩
    exact key d (List.mem_of_getElem? hd)
   have k35:Keep a H3 H5:=(Keep.of s4).trans k5
   have hz5:=k35 _ _ nls hz
   have hh5:=(hh.keep k3 nh).keep k35 nh
   have hm5:=(hm.keep k3 nm).keep k35 nm
   refine⟨_,rfl, .inl ⟨rfl,_,SqL.of hz5⟩,_,rfl,_,rfl,_,rfl,a,h,m,_,false,O,rfl,hH5,by omega,hh5,hm5,nh,nm,λvc dc H6 rc lc hc hco hto hH6 k6=>⟨_,rfl,few rfl,λp7 hp7=>?_⟩⟩
   have m36:Mono H3 H6:=(Mono.keep k35 hH3 hH5).trans (.keep k6 hH5 hH6)
   have hz7:upd H6 p7 (.tup [vc,v]) ls=some (.lst zs):=by rw[ze (zi (k6 _ _ nls hz5) hp7)];exact k6 _ _ nls hz5
   refine⟨ls,_,_,rfl,rfl,hz7,zn (by omega),⟨_,_,rfl⟩,⟨_,ds ++ [.tup [.tup dc,dn]],zb,?_,?_,?_⟩,?_,?_⟩
   ·exact RepL.mono (.append ((rz.mono m36).mono (.new hp7)) (.cons (.mk2 zb (rc.mono (.new hp7)) ((rn.mono (.keep k6 hH5 hH6)).mono (.new hp7))) .nil)) (.lset hz7)
   ·rw[List.length_append,hdl];rfl
   ·intro d hd
    rcases List.mem_append.mp hd with hd|hd
    ·exact hds d hd
    ·rw[List.mem_singleton.mp hd];exact Bool.and_eq_true _ _▸⟨zjp lc hc (hto rfl) hw,zfI hco hwo⟩
   ·exact ((hH6.new hp7).updNe nls).mono (by rw[show((i+1:Nat):Int)=(i:Int)+1 by omega];omega)
   ·exact Keep.updNew ((k3.trans (k35.trans k6)).trans (Keep.new hp7)) hls
  ·rintro σ' H3 ⟨⟨o1,o2,rfl⟩,⟨zs,ds,hz,rz,hdl,hds⟩,hH3,k3⟩
   refine⟨_,rfl,ls,zs,rfl, .inl ⟨SqL.of hz,λp hp=>?_⟩⟩
   exact q _ ds _ (.mkL zb (by omega) (rz.mono (.new hp))) (by omega) hds ((hH3.new hp).mono (by omega)) (k3.trans (Keep.new hp))
end
section
variable{P:Program}{w:World}{K:PySem.W.Frag}{mg:Str->Option Value}{base:Heap}
theorem zmg{ds:List D}{x:D}(hl:ds.length<=4)(h:∀d∈ds,zL d=true)(hx:zbe x=true):zbh (.tup [.tup ds,x])=true:=by
 rw[zmP,zhl hl h,hx];rfl
theorem zly{y x:Str}(hx:zh x=true)(hy:y="put"\/y="strike"):zbe (.tup [.str y, .str x])=true:=by
 rw[zo1,zhb,hx]
 rcases hy with rfl|rfl<;>decide +kernel
theorem zkY(Y:Ev K mg):FnOk P w K mg base CX0 5 Y.a__law_hands Y.d__law_hands zbf (zep zgv):=by
 have G__law_take:FnOk P w K mg base CX0 1 Y.a__law_take Y.d__law_take zN zcs:=zb2 Y
 have G__law_pick:FnOk P w K mg base CX0 2 Y.a__law_pick Y.d__law_pick zM (zbM K):=zb1 Y
 have G__law_conds:FnOk P w K mg base CX0 4 Y.a__law_conds Y.d__law_conds zaM zfL:=zgS Y
 refine Y._law_hands.fn.okQ c__law_hands (λvs H Q E h=>?_) (λcdv A outer s H vs Q E hr h=>?_)
 ·obtain ⟨a,h,m,n,O,rfl,_⟩:=h;rfl
 ·obtain ⟨a,h,m,n,O,rfl,hH,hn,hh,hm,nh,nm,q⟩:=h
  refine⟨_,(zg (zB 3 c__law_hands.nd (zbN zc))
   (zg (zbx PassesOwn.never rfl (zdi Y.range (za (zJ zab (zj G__law_pick (hr.mono (by decide)) Y._law_pick.mg Y._law_pick.kp Y._law_pick.b .nil zo (za (qv 0) (za (zev [V.int 0,V.int 0,V.int 1,V.int 2] (by decide +kernel)) zc))) (zJ zbk zf (zX zcZ Y.int zfQ (za (zb5 zak (zj G__law_take (hr.mono (by decide)) Y._law_take.mg Y._law_take.kp Y._law_take.b .nil zo (za (qv 0) (za zf zc))) zf) zc)))) zc)) (zt 4 c__law_hands.nd) (zg (zB 5 c__law_hands.nd (zj G__law_pick (hr.mono (by decide)) Y._law_pick.mg Y._law_pick.kp Y._law_pick.b .nil zo (za (qv 0) (za (zbN (za (zD (za zav zc)) (za (zD (za zav (za (zj G__law_pick (hr.mono (by decide)) Y._law_pick.mg Y._law_pick.kp Y._law_pick.b .nil zo (za (qv 0) (za (qv 2) zc))) zc))) (za (zD (za zav (za (zj G__law_pick (hr.mono (by decide)) Y._law_pick.mg Y._law_pick.kp Y._law_pick.b .nil zo (za (qv 0) (za (qv 2) zc))) zc))) zc)))) zc))))
   (zm (zdc (zgk PySem.F.plainAttrs_list PySem.F.slot_list_append PySem.F.type_list_append zaD (qv 3) (za (zD (za (zj G__law_conds (hr.mono (by decide)) Y._law_conds.mg Y._law_conds.kp Y._law_conds.b .nil zo (za (qv 0) (za (qv 1) (za (qv 2) (za zcb zc))))) (za (qv 5) zc))) zc))))))
   (zm (zx (zX zG Y.tuple zax (za (qv 3) zc)))))),?_⟩
  refine⟨few rfl,λls hls=>?_⟩
  have nls:=hH.ne hls
  have hH0:=hH.new (o:= .lst []) hls
  refine⟨_,rfl,by decide,λpk hpk=>⟨a,n,hH0.new hpk,by omega, .inl ⟨pk,_,rfl,hH0.ne hpk,SqL.of zb,by decide,by decide,λv H1 hv hH1 k1=>?_⟩⟩⟩
  obtain⟨c,rfl,c0,c4⟩:∃c:Int,v= .int c/\0<=c/\c<=4:=by
   simp only[List.mem_cons,List.not_mem_nil,or_false] at hv
   rcases hv with rfl|rfl|rfl|rfl<;>exact ⟨_,rfl,by decide,by decide⟩
  refine⟨_,rfl,a,8,n+1,rfl,hH1,by omega,by decide,by decide,λu H2 u0 u8 hH2 k2=>?_⟩
  have hl0:upd H ls (.lst []) ls=some (.lst []):=zb
  have hl1:H1 ls=some (.lst []):=k1 _ _ nls (by rw[ze (zi hl0 hpk)];exact hl0)
  have hl2:H2 ls=some (.lst []):=k2 _ _ nls hl1
  have kp2:Keep a H H2:=((Keep.new hls).trans ((Keep.new hpk).trans k1)).trans k2
  refine⟨rfl, .inr ⟨_,rfl,_,_,rfl,rfl, .inl ⟨by decide,by decide⟩,_,_,rfl,rfl,_,rfl,?_,?_,?_⟩⟩
  ·split<;>omega
  ·split<;>omega
  have hN:(c+8*(if decide (V.int u=V.int 0)=true then(1:Int)else 0)).toNat<=12:=by split<;>omega
  generalize (c+8*(if decide (V.int u=V.int 0)=true then(1:Int)else 0)).toNat=N at *
  refine za9 zcA (λi σ' H'=>(∃o1 o2,σ'=[some (.ref a),some (.ref h),some (.ref m),some (.ref ls),o1,o2])/\znw (zgv O) H' ls i/\Hand H' a (n+2+20*i)/\Keep a H H') ?_ (λ_ _ _ _=>trivial) ?_ ?_
  ·exact ⟨⟨_,_,rfl⟩,⟨[],[],hl2,RepL.nil,rfl,λ_ z=>nomatch z⟩,hH2.mono (by omega),kp2⟩
  ·rintro i y σ' H3 hi rfl ⟨⟨o1,o2,rfl⟩,⟨zs,ds,hz,rz,hdl,hds⟩,hH3,k3⟩
   have rz1:=rz.1
   refine⟨_,rfl,few rfl,λp1 hp1=>?_⟩
   have S1:Same H3 (upd H3 p1 (.tup [.str "keep"])):=Same.new hp1
   have hm3:=hm.keep k3 nm
   have hh3:=hh.keep k3 nh
   refine⟨_,rfl,_,rfl,zcg (hH3.new hp1) (by omega) (hm3.same S1) nm λx H4 hx hH4 k4=>⟨few rfl,λp2 hp2=>?_⟩⟩
   have S2:Same H4 (upd H4 p2 (.tup [.str "put", .str x])):=Same.new hp2
   refine⟨_,rfl,_,rfl,zcg (hH4.new hp2) (by omega) (((hm3.same S1).keep k4 nm).same S2) nm λy H5 hy hH5 k5=>⟨few rfl,λp3 hp3=>⟨few rfl,λp4 hp4=>?_⟩⟩⟩
   have S3:Same H5 (upd H5 p3 (.tup [.str "strike", .str y])):=Same.new hp3
   have S4:Same (upd H5 p3 (.tup [.str "strike", .str y])) (upd (upd H5 p3 (.tup [.str "strike", .str y])) p4 (.lst [.ref p1, .ref p2, .ref p3])):=Same.new hp4
   have hH6:=(hH5.new (o:= .tup [.str "strike", .str y]) hp3).new (o:= .lst [.ref p1, .ref p2, .ref p3]) hp4
   refine⟨a,_,hH6,by omega, .inl ⟨p4,_,rfl,Hand.ne (hH5.new hp3) hp4,SqL.of zb,(by decide:0<3),(by decide:3<1000),λv H7 hv hH7 k7=>?_⟩⟩
   have M2:Mono (upd H3 p1 (.tup [.str "keep"])) H4:=Mono.keep k4 (hH3.new hp1) hH4
   have M3:=Mono.keep k5 (hH4.new hp2) hH5
   have M5:=Mono.keep k7 hH6 hH7
   have M45:=((Mono.of S3).trans (Mono.of S4)).trans M5
   have k37:Keep a H3 H7:=(((((Keep.of S1).trans k4).trans (Keep.of S2)).trans k5).trans ((Keep.of S3).trans (Keep.of S4))).trans k7
   obtain⟨da,ra,haa,hao⟩:∃da,Rep H7 v da/\zbe da=true/\zu O da=true:=by
    simp only[List.mem_cons,List.not_mem_nil,or_false] at hv
    rcases hv with rfl|rfl|rfl
    ·exact ⟨.tup [.str "keep"],Rep.mono (.mk1 zb (.str _ (by decide))) (((M2.trans (.of S2)).trans M3).trans M45),by decide +kernel,rfl⟩
    ·exact ⟨.tup [.str "put", .str x],Rep.mono (.mk2 zb (.str _ (by decide)) (.str _ (zC hx.1))) (M3.trans M45),zly hx.1 (.inl rfl),zbD hx.2⟩
    ·exact ⟨.tup [.str "strike", .str y],Rep.mono (.mk2 zb (.str _ (by decide)) (.str _ (zC hy.1))) ((Mono.of S4).trans M5),zly hy.1 (.inr rfl),zbD hy.2⟩
   have hz7:=k37 _ _ nls hz
   refine⟨_,rfl, .inl ⟨rfl,_,SqL.of hz7⟩,_,rfl,_,rfl,_,rfl,a,h,m,_,true,O,rfl,hH7,by omega,hh3.keep k37 nh,hm3.keep k37 nm,nh,nm,λvc dc H8 rc lc hc hco hto hH8 k8=>⟨_,rfl,few rfl,λp9 hp9=>?_⟩⟩
   have m38:Mono H3 H8:=(Mono.keep k37 hH3 hH7).trans (.keep k8 hH7 hH8)
   have hz9:upd H8 p9 (.tup [vc,v]) ls=some (.lst zs):=by rw[ze (zi (k8 _ _ nls hz7) hp9)];exact k8 _ _ nls hz7
   refine⟨ls,_,_,rfl,rfl,hz9,zn (by omega),⟨_,_,rfl⟩,⟨_,ds ++ [.tup [.tup dc,da]],zb,?_,?_,?_⟩,?_,?_⟩
   ·exact RepL.mono (.append ((rz.mono m38).mono (.new hp9)) (.cons (.mk2 zb (rc.mono (.new hp9)) ((ra.mono (.keep k8 hH7 hH8)).mono (.new hp9))) .nil)) (.lset hz9)
   ·rw[List.length_append,hdl];rfl
   ·intro d hd
    rcases List.mem_append.mp hd with hd|hd
    ·exact hds d hd
    ·rw[List.mem_singleton.mp hd];exact Bool.and_eq_true _ _▸⟨zmg lc hc haa,zfI hco hao⟩
   ·exact ((hH8.new hp9).updNe nls).mono (by rw[show((i+1:Nat):Int)=(i:Int)+1 by omega];omega)
   ·exact Keep.updNew ((k3.trans (k37.trans k8)).trans (Keep.new hp9)) hls
  ·rintro σ' H3 ⟨⟨o1,o2,rfl⟩,⟨zs,ds,hz,rz,hdl,hds⟩,hH3,k3⟩
   refine⟨_,rfl,ls,zs,rfl, .inl ⟨SqL.of hz,λp hp=>?_⟩⟩
   exact q _ ds _ (.mkL zb (by omega) (rz.mono (.new hp))) (by omega) hds ((hH3.new hp).mono (by omega)) (k3.trans (Keep.new hp))
def TD(H:Hp)(d:Addr)(xs:List Str)(c k e:Nat):Prop:=∃(kvs:List (List Key×V)) (ps:List (Str×Str)),H d=some (.dT kvs)/\kvs.map (·.1)=ps.map zfj/\ps.length<=c/\(∀p∈ps,p.1∈xs/\p.2∈xs/\ltS p.1 p.2=true)/\Spr xs ps k e
theorem zih{kvs:List (List Key×V)}{k:List Key}{v:V}:(zar kvs k v).map (·.1)=kvs.map (·.1)\/(zar kvs k v).map (·.1)=kvs.map (·.1)++ [k]:=by
 unfold zar
 by_cases h:(kvs.any λkv=>decide (kv.1=k))=true
 ·rw[if_pos h]
  refine .inl ?_
  rw[List.map_map]
  apply List.map_congr_left
  intro x _
  show(if x.1=k then(x.1,v)else x).1=x.1
  split<;>rfl
 ·rw[if_neg h,List.map_append]
  exact .inr rfl
theorem TD.put{H:Hp}{d:Addr}{xs:List Str}{c k e:Nat}{p:Str×Str}{v:V}{kvs:List (List Key×V)}{ps:List (Str×Str)}(h1:kvs.map (·.1)=ps.map zfj)(h2:ps.length<=c)(h3:∀p∈ps,p.1∈xs/\p.2∈xs/\ltS p.1 p.2=true)(hp:p.1∈xs/\p.2∈xs/\ltS p.1 p.2=true)(sp:∀ps',(∀q∈ps',q∈ps\/q=p)->Spr xs ps' k e):
 TD (upd H d (.dT (zar kvs (zfj p) v))) d xs (c+1) k e:=by
 rcases zih (kvs:=kvs) (k:=zfj p) (v:=v)with e|e
 ·exact ⟨_,ps,zb,e.trans h1,by omega,h3,sp _ λq hq=> .inl hq⟩
 ·refine ⟨_,ps ++ [p],zb,by rw[e,h1,List.map_append];rfl,by rw[List.length_append];show ps.length+1<=_;omega,λq hq=>?_,sp _ λq hq=>(List.mem_append.mp hq).imp id List.mem_singleton.mp⟩
  rcases List.mem_append.mp hq with hq|hq
  ·exact h3 q hq
  ·rw[List.mem_singleton.mp hq];exact hp
theorem TD.keep{H H':Hp}{a d:Addr}{xs:List Str}{c k' e':Nat}(h:TD H d xs c k' e')(k:Keep a H H')(n:d≠a):TD H' d xs c k' e':=let⟨kvs,ps,e,r⟩:=h;⟨kvs,ps,k _ _ n e,r⟩
theorem TD.mono{H:Hp}{d:Addr}{xs:List Str}{c c' k k' e e':Nat}(h:TD H d xs c k e)(l:c<=c')(lk:k<=k')(le:e<=e'):TD H d xs c' k' e':=let⟨kvs,ps,e,f,g,r,s⟩:=h;⟨kvs,ps,e,f,Nat.le_trans g l,r,s.mono (λ_ z=>z) lk le⟩
theorem zkQ{x y:Str}(h:x≠y):ltS (if ltS y x=true then y else x) (if ltS x y=true then y else x)=true:=by
 cases e:ltS x y with
 |true=>rw[zcj e];simp only[Bool.false_eq_true,if_false,if_true];exact e
 |false=>
  have:=zbO h e
  rw[this];simp only[Bool.false_eq_true,if_false,if_true];exact this
def ziV:Sp:=λvs H Q _=>∃(a h:Addr) (n:Int) (more:Nat) (xs:List Str),vs=[.ref a, .ref h, .int more]/\Hand H a n/\n<2^38/\H h=some (.lst (xs.map V.str))/\h≠a/\1<=xs.length/\xs.length<=10/\xs.Nodup/\(∀x∈xs,zh x=true)/\more<=30/\
 ∀(v:V) (ps:List (Str×Str)) (H':Hp),Rep H' v (.tup (ps.map pairD))->ps.Pairwise (λa b=>ltP a b=true)->(∀p∈ps,p.1∈xs/\p.2∈xs/\ltS p.1 p.2=true)->Spr xs ps 20 more->Hand H' a (n+100)->Keep a H H'->Q v H'
theorem zm1(Y:Ev K mg):FnOk P w K mg base CX0 3 Y.a__law_ties Y.d__law_ties zbG ziV:=by
 have G__law_take:FnOk P w K mg base CX0 1 Y.a__law_take Y.d__law_take zN zcs:=zb2 Y
 have G__law_pick:FnOk P w K mg base CX0 2 Y.a__law_pick Y.d__law_pick zM (zbM K):=zb1 Y
 refine Y._law_ties.fn.okQ c__law_ties (λvs H Q E h=>?_) (λcdv A outer s H vs Q E hr h=>?_)
 ·obtain ⟨a,h,n,more,xs,rfl,_⟩:=h;rfl
 ·obtain ⟨a,h,n,more,xs,rfl,hH,hn,hh,nh,x1,x10,hnd,hxn,hmore,q⟩:=h
  refine⟨_,(zg (zB 3 c__law_ties.nd zmH)
   (zg (zbx PassesOwn.never rfl (zo8 Y.range (za zf (za (zz z8 Y.len zbs (za (qv 1) zc)) zc))) (zt 4 c__law_ties.nd) (zg (zhF 5 6 c__law_ties.nd (za (zT ix_list (qv 1) (qv 4)) (za (zT ix_list (qv 1) (zj G__law_take (hr.mono (by decide)) Y._law_take.mg Y._law_take.kp Y._law_take.b .nil zo (za (qv 0) (za (qv 4) zc)))) zc)))
   (zm (zas (zI zkh (zj G__law_take (hr.mono (by decide)) Y._law_take.mg Y._law_take.kp Y._law_take.b .nil zo (za (qv 0) (za zf zc))) zf) (zm (zhO (hu1 hr) (qv 3) (zD (za (zz (zeY rfl) Y.min zf6 (za (qv 5) (za (qv 6) zc))) (za (zz (zeB rfl) Y.max ziq (za (qv 5) (za (qv 6) zc))) zc))) zcb)) zS))))
   (zg (zbx PassesOwn.never rfl (zdi Y.range (za (qv 2) zc)) (zt 4 c__law_ties.nd) (zg (zhF 5 6 c__law_ties.nd (za (zj G__law_pick (hr.mono (by decide)) Y._law_pick.mg Y._law_pick.kp Y._law_pick.b .nil zo (za (qv 0) (za (qv 1) zc))) (za (zj G__law_pick (hr.mono (by decide)) Y._law_pick.mg Y._law_pick.kp Y._law_pick.b .nil zo (za (qv 0) (za (qv 1) zc))) zc)))
   (zm (zas (zI znH (qv 5) (qv 6)) (zm (zhO (hu1 hr) (qv 3) (zD (za (zz (zeY rfl) Y.min zf6 (za (qv 5) (za (qv 6) zc))) (za (zz (zeB rfl) Y.max ziq (za (qv 5) (za (qv 6) zc))) zc))) zcb)) zS))))
   (zm (zx (zX zG Y.tuple zax (za (zz (zgq rfl) Y.sorted zce (za (qv 3) zc)) zc))))))),?_⟩
  intro d hd
  have nd:=hH.ne hd
  have ndh:d≠h:=λz=>by rw[z,hh] at hd;cases hd
  have hh0:upd H d (.dT []) h=some (.lst (xs.map V.str)):=by rw[ze (Ne.symm ndh)];exact hh
  refine⟨_,rfl, .inl ⟨h,_,rfl, .inl (SqL.of hh0),1,_,rfl,⟨by decide,by decide,by omega,by rw[List.length_map];omega⟩,?_⟩⟩
  have hN:(((xs.map V.str).length:Int) -1).toNat=xs.length -1:=by rw[List.length_map];omega
  rw[hN]
  refine za9 zcA (λi σ' H'=>(∃o1 o2 o3,σ'=[some (.ref a),some (.ref h),some (.int more),some (.ref d),o1,o2,o3])/\TD H' d xs i (i+1) 0/\Hand H' a (n+2*i)/\Keep a H H') ?_ (λ_ _ _ _=>trivial) ?_ ?_
  ·exact ⟨⟨_,_,_,rfl⟩,⟨[],[],zb,rfl,Nat.le_refl _,λ_ z=>(nomatch z),Spr.nil⟩,(hH.new hd).mono (by omega),Keep.new hd⟩
  ·rintro i y σ' H1 hi rfl ⟨⟨o1,o2,o3,rfl⟩,td,hH1,k1⟩
   have hh1:=k1 _ _ nh hh
   have g1:atI (xs.map V.str) (1+(i:Int))=some (.str (xs.getD (i+1) "")):=by
    have hi1:i+1<xs.length:=by omega
    rw[Int.add_comm]
    exact zU (j:=i+1) (by simp[hi1,List.getD])
   refine⟨_,rfl,_,rfl,h,_,_,_,rfl,rfl,SqL.of hh1,g1,_,rfl,_,rfl,_,rfl,a,_,_,rfl,hH1,by omega,by omega,by omega,λt' H2 t0 t1 hH2 k2=>?_⟩
   obtain⟨t,rfl⟩:∃t:Nat,t'=(t:Int):=⟨t'.toNat,by omega⟩
   have hh2:=k2 _ _ nh hh1
   have ht:t<xs.length:=by omega
   have g2:atI (xs.map V.str) (t:Int)=some (.str (xs.getD t "")):=zU (by simp[ht,List.getD])
   have hne:xs.getD (i+1) ""≠xs.getD t "":=by
    have hi1:i+1<xs.length:=by omega
    have:=zlL hnd hi1 ht (by omega)
    simpa[List.getD,hi1,ht] using this
   have mx1:xs.getD (i+1) ""∈xs:=by have hi1:i+1<xs.length:=by omega
                                    simp[List.getD,hi1]
   have mx2:xs.getD t ""∈xs:=by simp[List.getD,ht]
   have hi1':i+1<xs.length:=by omega
   have sx1:xs[i+1]?=some (xs.getD (i+1) ""):=by simp[List.getD,hi1']
   have sx2:xs[t]?=some (xs.getD t ""):=by simp[List.getD,ht]
   have tlt:t<i+1:=by omega
   generalize xs.getD (i+1) ""=x at *
   generalize xs.getD t ""=y at *
   refine⟨h,_,_,_,rfl,rfl,SqL.of hh2,g2,_,_,rfl,?_⟩
   have td2:=td.keep k2 nd
   refine⟨_,rfl,a,9,_,rfl,hH2,by omega,by decide,by decide,λu H3 u0 u9 hH3 k3=>⟨_,_,rfl,rfl,_,rfl,zbS (λ_=>?_) (λ_=>?_)⟩⟩
   ·obtain ⟨kvs,ps,hkv,hkk,hpl,hpg,hsp⟩:=td2.keep k3 nd
    refine⟨_,rfl,_,rfl,_,rfl,x,y,rfl,_,rfl,_,rfl,x,y,rfl,few rfl,λp hp=>?_⟩
    have hkv4:upd H3 p (.tup [.str (if ltS y x=true then y else x), .str (if ltS x y=true then y else x)]) d=some (.dT kvs):=by rw[ze (zi hkv hp)];exact hkv
    have hlk:kvs.length=ps.length:=by have:=congrArg List.length hkk;simpa using this
    refine⟨d,_,rfl,DPut.t (k:=zfj (if ltS y x=true then y else x,if ltS x y=true then y else x)) hkv4 zb (zn (by omega)),⟨_,_,_,rfl⟩,TD.put hkk hpl hpg ⟨?_,?_,zkQ hne⟩ (λps' hps=>hsp.tie (by omega) tlt sx1 sx2 hps),?_,?_⟩
    ·dsimp only;split<;>assumption
    ·dsimp only;split<;>assumption
    ·exact ((hH3.new hp).updNe nd).mono (by rw[show((i+1:Nat):Int)=(i:Int)+1 by omega];omega)
    ·exact Keep.updNew (((k1.trans k2).trans k3).trans (Keep.new hp)) hd
   ·exact ⟨⟨_,_,_,rfl⟩,(td2.keep k3 nd).mono (by omega) (by omega) (by omega),hH3.mono (by rw[show((i+1:Nat):Int)=(i:Int)+1 by omega];omega),(k1.trans k2).trans k3⟩
  ·rintro σ' H1 ⟨⟨o1,o2,o3,rfl⟩,td,hH1,k1⟩
   refine⟨_,rfl,more,rfl,by omega,by omega,?_⟩
   rw[Int.toNat_natCast]
   refine za9 zcA (λi σ' H'=>(∃o1 o2 o3,σ'=[some (.ref a),some (.ref h),some (.int more),some (.ref d),o1,o2,o3])/\TD H' d xs (9+i) 20 i/\Hand H' a (n+20+2*i)/\Keep a H H') ?_ (λ_ _ _ _=>trivial) ?_ ?_
   ·exact ⟨⟨_,_,_,rfl⟩,td.mono (by omega) (by omega) (by omega),hH1.mono (by omega),k1⟩
   ·rintro i y σ' H2 hi rfl ⟨⟨o1,o2,o3,rfl⟩,td2,hH2,k2⟩
    have pk:∀{H0:Hp} {n0:Int} {R:VK},Hand H0 a n0->n0<2^40->H0 h=some (.lst (xs.map V.str))->(∀x H',x∈xs->Hand H' a (n0+1)->Keep a H0 H'->R (.str x) H')->zbM K [.ref a, .ref h] H0 R E0:=λhH0 hn0 e0 qq=>
     ⟨a,_,hH0,hn0, .inl ⟨h,_,rfl,nh,SqL.of e0,by rw[List.length_map];omega,by rw[List.length_map];omega,λv H' hv hH' k'=>by
       obtain⟨x,hx,rfl⟩:=List.mem_map.mp hv
       exact qq x H' hx hH' k'⟩⟩
    have hh2:=k2 _ _ nh hh
    refine⟨_,rfl,_,rfl,pk hH2 (by omega) hh2 λx H3 hx hH3 k3=>⟨_,rfl,_,rfl,pk hH3 (by omega) (k3 _ _ nh hh2) λy H4 hy hH4 k4=>⟨_,_,rfl,_,rfl,_,rfl,rfl,_,rfl,zbS (λhc=>?_) (λ_=>?_)⟩⟩⟩
    ·have hne:x≠y:=λz=>by rw[z] at hc;simp at hc
     obtain⟨kvs,ps,hkv,hkk,hpl,hpg,hsp⟩:=(td2.keep k3 nd).keep k4 nd
     refine⟨_,rfl,_,rfl,_,rfl,x,y,rfl,_,rfl,_,rfl,x,y,rfl,few rfl,λp hp=>?_⟩
     have hkv4:upd H4 p (.tup [.str (if ltS y x=true then y else x), .str (if ltS x y=true then y else x)]) d=some (.dT kvs):=by rw[ze (zi hkv hp)];exact hkv
     have hlk:kvs.length=ps.length:=by have:=congrArg List.length hkk;simpa using this
     refine⟨d,_,rfl,DPut.t (k:=zfj (if ltS y x=true then y else x,if ltS x y=true then y else x)) hkv4 zb (zn (by omega)),⟨_,_,_,rfl⟩,TD.put hkk hpl hpg ⟨?_,?_,zkQ hne⟩ (λps' hps=>hsp.more hps),?_,?_⟩
     ·dsimp only;split<;>assumption
     ·dsimp only;split<;>assumption
     ·exact ((hH4.new hp).updNe nd).mono (by rw[show((i+1:Nat):Int)=(i:Int)+1 by omega];omega)
     ·exact Keep.updNew (((k2.trans k3).trans k4).trans (Keep.new hp)) hd
    ·exact ⟨⟨_,_,_,rfl⟩,((td2.keep k3 nd).keep k4 nd).mono (by omega) (by omega) (by omega),hH4.mono (by rw[show((i+1:Nat):Int)=(i:Int)+1 by omega];omega),(k2.trans k3).trans k4⟩
   ·rintro σ' H2 ⟨⟨o1,o2,o3,rfl⟩,⟨kvs,ps,hkv,hkk,hpl,hpg,hsp⟩,hH2,k2⟩
    refine⟨_,rfl,d,kvs,ps,rfl,hkv,hkk,by omega,λps' vs l hperm hpw hpa hl=>⟨l,vs,rfl, .inl ⟨SqL.of zb,λp hp=>?_⟩⟩⟩
    have S:Same H2 (upd (upd H2 l (.lst vs)) p (.tup vs)):=(Same.new hl).trans (Same.new hp)
    refine q _ ps' _ (.mkL zb (by rw[List.length_map,hperm.length_eq];omega) ⟨by rw[List.length_map];exact hpa.1,λi v dd e1 e2=>?_⟩) hpw (λp hp=>hpg p (hperm.mem_iff.mp hp)) (hsp.mono (λp hp=>hperm.mem_iff.mp hp) (Nat.le_refl _) (Nat.le_refl _)) ((hH2.same S).mono (by omega)) (k2.trans (Keep.of S))
    rw[List.getElem?_map] at e2
    cases e3:ps'[i]? with
    |none=>rw[e3] at e2;cases e2
    |some pr=>
     rw[e3] at e2
     cases e2
     obtain⟨b,rfl,hb⟩:=hpa.2 i v pr e1 e3
     have hpr:=hpg pr (hperm.mem_iff.mp (List.mem_of_getElem? e3))
     exact .mk2 (S _ _ hb) (.str _ (zC (hxn _ hpr.1))) (.str _ (zC (hxn _ hpr.2.1)))
end
section
variable{P:Program}{w:World}{K:PySem.W.Frag}{mg:Str->Option Value}{base:Heap}
def zbT(ps:List (Str×Str)):Prop:=∃xs k,xs.Nodup/\Spr xs ps k 4
def zkr:Sp:=λvs H Q _=>∃(a:Addr) (n:Int),vs=[.ref a]/\Hand H a n/\n<2^36/\∀(v:V) (g:Str) (hs:List Str) (ps:List (Str×Str)) (lks hds:List D) (H':Hp),Rep H' v (zaB g hs ps lks hds)->TownOk g hs ps lks hds->(∀x∈hs,x≠"nowhere")->(∃O,O.length<=13/\Pool hs lks hds O)->(∀d∈lks,∃ds,d= .tup ds/\ds.length<=12)->(∀d∈hds,∃ds,d= .tup ds/\ds.length<=12)->zbT ps->Hand H' a (n+9000)->Keep a H H'->Q v H'
theorem ze7{d:D}{ds:List D}(e:d= .tup ds)(h:ds.length<=12){O:List Str}(h2:∀d∈ds,zf8 O d=true):za0 d=true/\zaq O d=true/\∃es,d= .tup es/\es.length<=12:=by
 subst e
 refine⟨?_,List.all_eq_true.mpr λd hd=>((Bool.and_eq_true _ _).mp (h2 d hd)).2,ds,rfl,h⟩
 show(decide (ds.length<=90)&&ds.all zQ)=true
 rw[decide_eq_true (by omega),List.all_eq_true.mpr λd hd=>((Bool.and_eq_true _ _).mp (h2 d hd)).1];rfl
theorem zgX{d:D}{ds:List D}(e:d= .tup ds)(h:ds.length<=12){O:List Str}(h2:∀d∈ds,zgv O d=true):zbq d=true/\zaq O d=true/\∃es,d= .tup es/\es.length<=12:=by
 subst e
 refine⟨?_,List.all_eq_true.mpr λd hd=>((Bool.and_eq_true _ _).mp (h2 d hd)).2,ds,rfl,h⟩
 show(decide (ds.length<=90)&&ds.all zbh)=true
 rw[decide_eq_true (by omega),List.all_eq_true.mpr λd hd=>((Bool.and_eq_true _ _).mp (h2 d hd)).1];rfl
theorem zmo(Y:Ev K mg):FnOk P w K mg base CX0 6 Y.a__law_town Y.d__law_town zbE zkr:=by
 have G__law_take:FnOk P w K mg base CX0 1 Y.a__law_take Y.d__law_take zN zcs:=zb2 Y
 have G__law_pick:FnOk P w K mg base CX0 2 Y.a__law_pick Y.d__law_pick zM (zbM K):=zb1 Y
 have G__law_names:FnOk P w K mg base CX0 3 Y.a__law_names Y.d__law_names zbg zg2:=zj2 Y
 have G__law_ties:FnOk P w K mg base CX0 3 Y.a__law_ties Y.d__law_ties zbG ziV:=zm1 Y
 have G__law_likings:FnOk P w K mg base CX0 5 Y.a__law_likings Y.d__law_likings zaw (zep zf8):=zie Y
 have G__law_hands:FnOk P w K mg base CX0 5 Y.a__law_hands Y.d__law_hands zbf (zep zgv):=zkY Y
 refine Y._law_town.fn.okQ c__law_town (λvs H Q E h=>?_) (λcdv A outer s H vs Q E hr h=>?_)
 ·obtain ⟨a,n,rfl,_⟩:=h;rfl
 ·obtain ⟨a,n,rfl,hH,hn,q⟩:=h
  refine⟨_,(zg (zB 1 c__law_town.nd (zT ix_list (zbN (za zf (za zf (za zf (za zf (za zf (za zf (za zf (za (zJ zab zf (zj G__law_take (hr.mono (by decide)) Y._law_take.mg Y._law_take.kp Y._law_take.b .nil zo (za (qc 0) (za zf zc)))) zc))))))))) (zj G__law_take (hr.mono (by decide)) Y._law_take.mg Y._law_take.kp Y._law_take.b .nil zo (za (qc 0) (za zf zc)))))
   (zg (zcm 2 c__law_town.nd (zj G__law_names (hr.mono (by decide)) Y._law_names.mg Y._law_names.kp Y._law_names.b .nil zo (za (qc 0) (za (zJ zab (qv 1) zf) zc))))
   (zg (zd6 (zD (za (zc3 zgx (qc 2) zaQ (zaO (qv 1))) (za (zc3 zgx (qc 2) (zaO (qv 1)) zaQ) zc))) (zda 2 rfl (zH (zt 3 c__law_town.nd) (zH (zgB 4 c__law_town.nd) zbK))))
   (zg (zB 5 c__law_town.nd (zj G__law_ties (hr.mono (by decide)) Y._law_ties.mg Y._law_ties.kp Y._law_ties.b .nil zo (za (qc 0) (za (qv 3) (za (zj G__law_take (hr.mono (by decide)) Y._law_take.mg Y._law_take.kp Y._law_take.b .nil zo (za (qc 0) (za zf zc))) zc)))))
   (zg (zB 6 c__law_town.nd (zj G__law_pick (hr.mono (by decide)) Y._law_pick.mg Y._law_pick.kp Y._law_pick.b .nil zo (za (qc 0) (za (qv 3) zc))))
   (zg (zB 7 c__law_town.nd (zX zG Y.tuple zax (za (zz zfR Y.sorted zce (za (qv 3) zc)) zc)))
   (zg (zB 8 c__law_town.nd (zX zG Y.tuple zax (za (zaT (src:=[none,some 0,some 4,some 2]) o__law_town_1 rfl rfl (zbY (qv 7)) (λ_ _ _ _ _=>(zt 0 o__law_town_1.nd)) (λ_ _ _ _ _=>zbW) (λ_ _ _ _ _=>(zj G__law_likings (hr.mono (by decide)) Y._law_likings.mg Y._law_likings.kp Y._law_likings.b .nil zo (za (qc 1) (za (qc 3) (za (qc 2) zc)))))) zc)))
   (zg (zB 9 c__law_town.nd (zX zG Y.tuple zax (za (zaT (src:=[none,some 0,some 4,some 2]) o__law_town_2 rfl rfl (zbY (qv 7)) (λ_ _ _ _ _=>(zt 0 o__law_town_2.nd)) (λ_ _ _ _ _=>zbW) (λ_ _ _ _ _=>(zj G__law_hands (hr.mono (by decide)) Y._law_hands.mg Y._law_hands.kp Y._law_hands.b .nil zo (za (qc 1) (za (qc 3) (za (qc 2) zc)))))) zc)))
   (zm (zx (zD (za (qv 6) (za (qv 7) (za (qv 5) (za (qv 8) (za (qv 9) zc)))))))))))))))),?_⟩
  refine⟨_,rfl,a,5,n,rfl,hH,by omega,by decide,by decide,λt H1 t0 t5 hH1 k1=>⟨_,_,rfl,rfl,few rfl,λpl hpl=>⟨_,rfl,a,8,n+1,rfl,hH1.new hpl,by omega,by decide,by decide,λu H2 u0 u8 hH2 k2=>?_⟩⟩⟩
  have hpl2:=k2 _ _ (hH1.ne hpl) (zb (o:= .lst [V.int 2,V.int 3,V.int 3,V.int 4,V.int 4,V.int 5,V.int 1,V.int (6+t)]))
  obtain⟨v,ev,hv⟩:=zet (xs:=[V.int 2,V.int 3,V.int 3,V.int 4,V.int 4,V.int 5,V.int 1,V.int (6+t)]) u0 u8
  obtain⟨m,rfl,m1,m10⟩:∃m:Nat,v= .int (m:Int)/\1<=m/\m<=10:=by
   simp only[List.mem_cons,List.not_mem_nil,or_false] at hv
   rcases hv with rfl|rfl|rfl|rfl|rfl|rfl|rfl|rfl
   ·exact ⟨2,rfl,by decide,by decide⟩
   ·exact ⟨3,rfl,by decide,by decide⟩
   ·exact ⟨3,rfl,by decide,by decide⟩
   ·exact ⟨4,rfl,by decide,by decide⟩
   ·exact ⟨4,rfl,by decide,by decide⟩
   ·exact ⟨5,rfl,by decide,by decide⟩
   ·exact ⟨1,rfl,by decide,by decide⟩
   ·exact ⟨(6+t).toNat,by congr 1;omega,by omega,by omega⟩
  have kp2:Keep a H H2:=(k1.trans (Keep.new hpl)).trans k2
  refine⟨pl,_,_,_,rfl,rfl,SqL.of hpl2,ev,?_⟩
  refine⟨_,rfl,_,rfl,_,_,rfl,rfl,a,n+1+1,m+3,by push_cast;rfl,hH2,by omega,by omega,by omega,λln xs H3 hln hl3 hlen hxn hxd hxw hH3 k3=>?_⟩
  have nln:ln≠a:=hH2.ne hln
  refine⟨_,rfl,_,rfl,_,rfl,ln,_,rfl,SqL.of hl3,λp1 hp1=>?_⟩
  have S1:Same H3 (upd H3 p1 (.lst (zaY (xs.map V.str) none (some (m:Int))))):=Same.new hp1
  refine⟨_,rfl,_,rfl,_,rfl,ln,_,rfl,SqL.of (S1 _ _ hl3),λp2 hp2=>⟨few rfl,λp3 hp3=>?_⟩⟩
  have S2:=Same.new (o:= .lst (zaY (xs.map V.str) (some (m:Int)) none)) hp2
  have S3:=Same.new (o:= .tup [V.ref p1,V.ref p2]) hp3
  have S13:=(S1.trans S2).trans S3
  have hp1':=S3 _ _ (S2 _ _ (zb (H:=H3) (a:=p1) (o:= .lst (zaY (xs.map V.str) none (some (m:Int))))))
  have hp2':=S3 _ _ (zb (H:=upd H3 p1 (.lst (zaY (xs.map V.str) none (some (m:Int))))) (a:=p2) (o:= .lst (zaY (xs.map V.str) (some (m:Int)) none)))
  refine⟨p3,_,rfl, .inl (.inl zb),rfl,_,_,rfl,_,_,rfl,rfl,?_⟩
  have hl4:=S13 _ _ hl3
  have hH4:=hH3.same S13
  have np1:p1≠a:=hH3.ne hp1
  have np2:p2≠a:=(hH3.same S1).ne hp2
  have kp4:=(kp2.trans k3).trans (Keep.of S13)
  generalize (upd (upd (upd H3 p1 (HO.lst (zaY (xs.map V.str) none (some (m:Int))))) p2 (HO.lst (zaY (xs.map V.str) (some (m:Int)) none))) p3 (HO.tup [V.ref p1,V.ref p2]))=H4 at *
  rw[za8,←List.map_take] at hp1'
  rw[zby,←List.map_drop] at hp2'
  have hth:(xs.take m).length=m:=by rw[List.length_take];omega
  have htn:∀x∈xs.take m,zh x=true:=λx hx=>hxn x (List.mem_of_mem_take hx)
  have htw:∀x∈xs.take m,x≠"nowhere":=λx hx=>hxw x (List.mem_of_mem_take hx)
  have htd:(xs.take m).Nodup:=hxd.sublist (List.take_sublist m xs)
  have hdn:∀x∈xs.drop m,zh x=true:=λx hx=>hxn x (List.mem_of_mem_drop hx)
  have hdl:(xs.drop m).length=3:=by rw[List.length_drop];omega
  have hto:∀x∈xs.take m,x∈xs:=λx hx=>List.mem_of_mem_take hx
  have hdo:∀x∈xs.drop m,x∈xs:=λx hx=>List.mem_of_mem_drop hx
  generalize xs.take m=hs at *
  generalize xs.drop m=ms at *
  have NLn:NL xs H4 ln:=⟨xs,hl4,by omega,by omega,λx hx=>⟨hxn x hx,hx⟩⟩
  have NLm:NL xs H4 p2:=⟨ms,hp2',by omega,by omega,λx hx=>⟨hdn x hx,hdo x hx⟩⟩
  refine⟨_,rfl,_,rfl,_,rfl,a,5,_,rfl,hH4,by omega,by decide,by decide,λmo' H5 mo0 mo5 hH5 k45=>?_⟩
  obtain⟨mo,rfl⟩:∃mo:Nat,mo'=(mo:Int):=⟨mo'.toNat,by omega⟩
  have mo30:mo<=30:=by omega
  have hp15:=k45 _ _ np1 hp1'
  refine⟨a,p1,_,mo,hs,rfl,hH5,by omega,hp15,np1,by omega,by omega,htd,htn,mo30,λvt ps H6 rt hpw hpg hspr hH6 k6=>?_⟩
  have hp16:=k6 _ _ np1 hp15
  refine⟨_,rfl,_,rfl,a,_,hH6,by omega, .inl ⟨p1,_,rfl,np1,SqL.of hp16,by rw[List.length_map];omega,by rw[List.length_map];omega,λvg H7 hvg hH7 k7=>?_⟩⟩
  obtain⟨g,hg,rfl⟩:=List.mem_map.mp hvg
  have hp17:=k7 _ _ np1 hp16
  have rt7:=rt.mono (.keep k7 hH6 hH7)
  refine⟨_,rfl,p1,hs,rfl,SqL.of hp17,by omega,htd,λhs' l hperm hrise hl=>⟨l,_,rfl, .inl ⟨SqL.of zb,λpr hpr=>?_⟩⟩⟩
  have S8:Same H7 (upd (upd H7 l (.lst (hs'.map V.str))) pr (.tup (hs'.map V.str))):=(Same.new hl).trans (Same.new hpr)
  have hpr8:(upd (upd H7 l (.lst (hs'.map V.str))) pr (.tup (hs'.map V.str))) pr=some (.tup (hs'.map V.str)):=zb
  have hH8:=hH7.same S8
  have rt8:=rt7.same S8
  have npr:pr≠a:=(hH7.new hl).ne hpr
  have k48:Keep a H4 (upd (upd H7 l (.lst (hs'.map V.str))) pr (.tup (hs'.map V.str))):=((k45.trans k6).trans k7).trans (Keep.of S8)
  have hlen':hs'.length=m:=by rw[hperm.length_eq];exact hth
  generalize (upd (upd H7 l (HO.lst (hs'.map V.str))) pr (HO.tup (hs'.map V.str)))=H8 at *
  have NLn8:=NLn.keep k48 nln
  have NLm8:=NLm.keep k48 np2
  refine⟨_,rfl,pr,rfl,⟨_, .inl (.inl hpr8)⟩,?_⟩
  refine zd7 (a:=a) (m:=n+300) (c:=400) (Pd:=λ_ d=>za0 d=true/\zaq xs d=true/\∃es,d= .tup es/\es.length<=12) (σr:=[some (.ref a),some (.ref p2),some (.ref ln)]) (zaU (K:=K) (xs:=hs'.map V.str)) (λH' k=> .inl (.inl (k _ _ npr hpr8))) rfl (hH8.mono (by omega)) (by rw[List.length_map];omega) (by decide) (λi x H9 Q1 hi hH9 k9 q1=>?_) (λl1 vl lks H9 hl1 hl1' rl hll pl9 hH9 k9=>?_)
  ·rw[List.length_map] at hi
   exact⟨_,rfl,_,rfl,_,rfl,a,ln,p2,_,xs,rfl,hH9,by omega,NLn8.keep k9 nln,NLm8.keep k9 np2,nln,np2,λv ds H10 rv hds hg10 hH10 k10=>q1 v _ H10 rv (ze7 rfl hds hg10) hH10 k10⟩
  refine⟨l1,vl,rfl, .inl ⟨SqL.of hl1',λpA hpA=>?_⟩⟩
  rw[List.length_map] at hll hH9
  have SA:=Same.new (o:= .tup vl) hpA
  have rlA:Rep (upd H9 pA (.tup vl)) (.ref pA) (.tup lks):= .mkL zb (by omega) (rl.mono (.new hpA))
  have hHA:=hH9.new (o:= .tup vl) hpA
  have k8A:Keep a H8 (upd H9 pA (.tup vl)):=k9.trans (Keep.of SA)
  generalize (upd H9 pA (HO.tup vl))=HA at *
  have hprA:=k8A _ _ npr hpr8
  refine⟨_,rfl,pr,rfl,⟨_, .inl (.inl hprA)⟩,?_⟩
  refine zd7 (a:=a) (m:=n+300+400*hs'.length) (c:=400) (Pd:=λ_ d=>zbq d=true/\zaq xs d=true/\∃es,d= .tup es/\es.length<=12) (σr:=[some (.ref a),some (.ref p2),some (.ref ln)]) (zaU (K:=K) (xs:=hs'.map V.str)) (λH' k=> .inl (.inl (k _ _ npr hprA))) rfl hHA (by rw[List.length_map];omega) (by decide) (λi x HB Q1 hi hHB kB q1=>?_) (λl2 va hds HB hl2 hl2' ra hla plB hHB kB=>?_)
  ·rw[List.length_map] at hi
   exact⟨_,rfl,_,rfl,_,rfl,a,ln,p2,_,xs,rfl,hHB,by omega,(NLn8.keep k8A nln).keep kB nln,(NLm8.keep k8A np2).keep kB np2,nln,np2,λv ds H10 rv hds hg10 hH10 k10=>q1 v _ H10 rv (zgX rfl hds hg10) hH10 k10⟩
  refine⟨l2,va,rfl, .inl ⟨SqL.of hl2',λpB hpB=>?_⟩⟩
  rw[List.length_map] at hla hHB
  have SB:=Same.new (o:= .tup va) hpB
  have mAB:Mono HA (upd HB pB (.tup va)):=(Mono.keep kB hHA hHB).trans (.of SB)
  have raB:Rep (upd HB pB (.tup va)) (.ref pB) (.tup hds):= .mkL zb (by omega) (ra.mono (.new hpB))
  have kAB:Keep a HA (upd HB pB (.tup va)):=kB.trans (Keep.of SB)
  have hHB':=hHB.new (o:= .tup va) hpB
  have rlB:=rlA.mono mAB
  have rtB:=(rt8.mono (.keep k8A hH8 hHA)).mono mAB
  have hprB:=kAB _ _ npr hprA
  refine⟨_,rfl,_,rfl,_,rfl,_,rfl,_,rfl,few rfl,λpT hpT=>?_⟩
  have rr:Rep (upd HB pB (.tup va)) (.ref pr) (.tup (hs'.map D.str)):=by
   refine .mkL hprB (by rw[List.length_map];omega) ⟨by rw[List.length_map,List.length_map],λi v d e1 e2=>?_⟩
   rw[List.getElem?_map] at e1 e2
   cases e3:hs'[i]? with
   |none=>rw[e3] at e1;cases e1
   |some x=>
    rw[e3] at e1 e2
    cases e1
    cases e2
    exact .str x (zC (htn x (hperm.mem_iff.mp (List.mem_of_getElem? e3))))
  have ST:=Mono.new (o:= .tup [.str g, .ref pr,vt, .ref pA, .ref pB]) hpT
  have rtown:=Rep.mkL (H:=upd (upd HB pB (.tup va)) pT (.tup [.str g, .ref pr,vt, .ref pA, .ref pB])) (p:=pT) (vs:=[.str g, .ref pr,vt, .ref pA, .ref pB]) (ds:=[.str g, .tup (hs'.map D.str), .tup (ps.map pairD), .tup lks, .tup hds]) zb (Nat.le_of_ble_eq_true rfl) (.cons (.str g (zC (htn g hg))) (.cons (rr.mono ST) (.cons (rtB.mono ST) (.cons (rlB.mono ST) (.cons (raB.mono ST) .nil)))))
  have pl9':=zeN (P:=λd=>za0 d=true/\zaq xs d=true/\∃es,d= .tup es/\es.length<=12) pl9
  have plB':=zeN (P:=λd=>zbq d=true/\zaq xs d=true/\∃es,d= .tup es/\es.length<=12) plB
  refine q _ g hs' ps lks hds _ rtown ⟨hrise,by omega,by omega,λx hx=>htn x (hperm.mem_iff.mp hx),hperm.mem_iff.mpr hg,hpw,λp hp=>?_,by omega,by omega,λd hd=>(pl9' d hd).1,λd hd=>(plB' d hd).1⟩ (λx hx=>htw x (hperm.mem_iff.mp hx)) ⟨xs,by omega,⟨by omega,hxn,λx hx=>hto x (hperm.mem_iff.mp hx),λd hd=>(pl9' d hd).2.1,λd hd=>(plB' d hd).2.1⟩⟩ (λd hd=>(pl9' d hd).2.2) (λd hd=>(plB' d hd).2.2) ⟨hs,20,htd,hspr.mono (λ_ z=>z) (Nat.le_refl _) (by omega)⟩ ((hHB'.new hpT).mono (by omega)) (((kp4.trans k48).trans (k8A.trans kAB)).trans (Keep.new hpT))
  obtain⟨h1,h2,h3⟩:=hpg p hp
  exact⟨hperm.mem_iff.mpr h1,hperm.mem_iff.mpr h2,h3⟩
end
section
variable{P:Program}{w:World}{K:PySem.W.Frag}{mg:Str->Option Value}{base:Heap}
theorem zdb{k:Nat}{c:D->Bool}{g:List Str->List Str->Option Str->D->Bool}(Y:Ev K mg)(G_holds:FnOk P w K mg base CX0 k Y.a_holds Y.d_holds zbP (zdE c g))(c':D->Bool)(g':List Str->List Str->Option Str->D->Bool)
 (hc:∀d,c' d=true->∃x e,d= .tup [.str x,e]) (h1:∀ws ms to x e,c' (.tup [.str x,e])=true->x="not"->c e=true/\(!g ws ms to e)=g' ws ms to (.tup [.str x,e]))
 (h2:∀x e,c' (.tup [.str x,e])=true->¬x="not"->zE (.tup [.str x,e])=true/\∀ws ms to,phB ws ms to x e=g' ws ms to (.tup [.str x,e])):
 FnOk P w K mg base CX0 (k+1) Y.a_holds Y.d_holds zbP (zdE c' g'):=by
 refine Y.holds.fn.okQ c_holds (λvs H Q E h=>?_) (λcdv A outer s H vs Q E hr h=>?_)
 ·obtain ⟨v,d,pw,pm,vt,ws,ms,to,rfl,_⟩:=h;rfl
 ·obtain ⟨v,d,pw,pm,vt,ws,ms,to,rfl,hd,hcd,hpw,hpm,hto,nw,nm,w1,lw,lm,q⟩:=h
  obtain⟨x,e,rfl⟩:=hc d hcd
  obtain⟨p,v0,v1,rfl,hp,r0,r1⟩:=hd.of2
  cases r0 with
  |str _ hx=>
  refine⟨_,(zg (zd6 (qv 0) (zda 2 rfl (zH (zt 4 c_holds.nd) (zH (zt 5 c_holds.nd) zbK))))
   (zg (zas (zI zak (qv 4) zav) (zm (zx (zpv (zj G_holds hr Y.holds.mg Y.holds.kp Y.holds.b .nil zo (za (qv 5) (za (qv 1) (za (qv 2) (za (qv 3) zc)))))))) zS)
   (zg (zas (zI zak (qv 4) zav) (zm (zx (zb5 zdV (qv 5) (qv 1)))) zS)
   (zg (zas (zI zak (qv 4) zav) (zm (zx (zpk (zb5 zkh (zz z8 Y.len zbs (za (qv 1) zc)) zf) (zpp (zb5 zak (zT ix_tup (qv 1) zf) (qv 5)))))) zS)
   (zg (zas (zI zak (qv 4) zav) (zm (zx (zb5 zak (qv 3) (qv 5)))) zS)
   (zg (zas (zI zak (qv 4) zav) (zm (zx (zb5 zdV (qv 5) (qv 2)))) zS)
   (zm (zx (zb5 znK (zJ zlz (zz z8 Y.len zbs (za (qv 1) zc)) zf) (qv 5)))))))))),?_⟩
  refine⟨_,rfl,p,_,rfl, .inl (.inl hp),rfl,_,_,rfl,_,_,rfl,rfl,?_⟩
  refine⟨_,rfl,rfl,_,rfl,zbS (λel=>?_) (λel=>?_)⟩
  ·obtain ⟨ce,ge⟩:=h1 ws ms to x e hcd (V.str.inj (of_decide_eq_true el))
   refine⟨_,rfl,_,rfl,_,rfl,_,rfl,v1,e,pw,pm,vt,ws,ms,to,rfl,r1,ce,hpw,hpm,hto,nw,nm,w1,lw,lm,λH' s'=>⟨_,rfl,?_⟩⟩
   have q:=q H' s'
   rw[←ge] at q
   exact q
  have q:=q H (Same.refl H)
  obtain⟨hpl,ge⟩:=h2 x e hcd λz=>el (decide_eq_true (by rw[z]))
  rw[←ge ws ms to] at q
  have bad:∀{y z:Str},y=z->¬decide (V.str y=V.str z)=true->False:=λe h=>h (by rw[e];exact decide_eq_true rfl)
  refine⟨_,rfl,rfl,_,rfl,zbS (λe1=>?_) (λe1=>?_)⟩
  ·have e1:=V.str.inj (of_decide_eq_true e1)
   subst e1
   rcases zbF hpl with⟨z,_⟩|⟨_,y,rfl,ny⟩
   ·exact absurd z (by decide +kernel)
   cases r1 with|str _ _=>
   rw[zpW,←zeq] at q
   exact⟨_,rfl,_,rfl,pw,_,rfl, .inr (.inl (.inl hpw)),rfl,zdN,q⟩
  refine⟨_,rfl,rfl,_,rfl,zbS (λe2=>?_) (λe2=>?_)⟩
  ·have e2:=V.str.inj (of_decide_eq_true e2)
   subst e2
   rcases zbF hpl with⟨z,_⟩|⟨_,y,rfl,ny⟩
   ·exact absurd z (by decide +kernel)
   cases r1 with|str _ _=>
   rw[zl7] at q
   refine⟨_,rfl, .inl ⟨pw,_,rfl, .inr (.inl (.inl hpw)),_,_,rfl,rfl,_,rfl,?_⟩⟩
   match ws,hpw,q with
   |[],hpw,q=>exact zbC rfl q
   |[a],hpw,q=>exact zbC rfl q
   |a::b::r,hpw,q=>
    refine zc6 (decide_eq_true (by rw[List.length_map,List.length_cons,List.length_cons];omega)) ?_
    refine⟨_,rfl,pw,_,1,_,rfl,rfl, .inl (.inl hpw),at1,_,rfl,rfl,?_⟩
    rw[zch]
    have eb:decide ((a::b::r)[1]?=some y)=decide (b=y):=by
     rw[Bool.eq_iff_iff,decide_eq_true_iff,decide_eq_true_iff];simp
    rw[eb] at q
    exact q
  refine⟨_,rfl,rfl,_,rfl,zbS (λe3=>?_) (λe3=>?_)⟩
  ·have e3:=V.str.inj (of_decide_eq_true e3)
   subst e3
   rcases zbF hpl with⟨z,_⟩|⟨_,y,rfl,ny⟩
   ·exact absurd z (by decide +kernel)
   cases r1 with|str _ _=>
   obtain⟨hsc,hde⟩:=hto.eq (y:=y)
   rw[zpc,←hde] at q
   exact⟨_,rfl,_,rfl,hsc,q⟩
  refine⟨_,rfl,rfl,_,rfl,zbS (λe4=>?_) (λe4=>?_)⟩
  ·have e4:=V.str.inj (of_decide_eq_true e4)
   subst e4
   rcases zbF hpl with⟨z,_⟩|⟨_,y,rfl,ny⟩
   ·exact absurd z (by decide +kernel)
   cases r1 with|str _ _=>
   rw[znp,←zeq] at q
   exact⟨_,rfl,_,rfl,pm,_,rfl, .inr (.inl (.inl hpm)),rfl,zdN,q⟩
  rcases zbF hpl with⟨rfl,i,rfl,i0,i9⟩|⟨hn,y,rfl,ny⟩
  ·cases r1 with|int _=>
   rw[zl3] at q
   refine⟨_,rfl, .inl ⟨pw,_,rfl, .inr (.inl (.inl hpw)),_,_,rfl,rfl,_,rfl,_,_,rfl,rfl,?_⟩⟩
   have eb:decide (i<=((ws.map V.str).length:Int) -1)=decide (i<(ws.length:Int)):=by
    rw[Bool.eq_iff_iff,decide_eq_true_iff,decide_eq_true_iff,List.length_map];omega
   rw[←eb] at q
   exact q
  ·rcases zgi hn with z|z|z|z
   ·exact (bad z e1).elim
   ·exact (bad z e2).elim
   ·exact (bad z e3).elim
   ·exact (bad z e4).elim
theorem zjI(Y:Ev K mg):FnOk P w K mg base CX0 1 Y.a_holds Y.d_holds zbP (zdE (λ_=>false) (λ_ _ _ _=>false)):=by
 refine Y.holds.fn.okQ c_holds (λvs H Q E h=>?_) (λcdv A outer s H vs Q E hr h=>?_)
 ·obtain ⟨v,d,_,_,_,_,_,_,rfl,_,z,_⟩:=h;cases z
 ·obtain ⟨v,d,_,_,_,_,_,_,rfl,_,z,_⟩:=h;cases z
theorem zlK(Y:Ev K mg):FnOk P w K mg base CX0 3 Y.a_holds Y.d_holds zbP (zdE zL zbb):=by
 refine zdb (c:=zE) (g:=zdh) Y ?_ zL zbb zjS ?_ ?_
 ·refine zdb Y (zjI Y) zE zdh zcw ?_ ?_
  ·intro ws ms to x e h z
   subst z
   exact absurd h (by rw[zcU];exact Bool.false_ne_true)
  ·exact λx e h _=>⟨h,λ_ _ _=>rfl⟩
 ·intro ws ms to x e h z
  subst z
  rw[zer,if_pos rfl] at h
  exact⟨h,by show(!zdh ws ms to e)=(if("not":Str)="not"then !zdh ws ms to e else phB ws ms to "not" e);rw[if_pos rfl]⟩
 ·intro x e h z
  rw[zer,if_neg z] at h
  exact⟨h,λws ms to=>by show phB ws ms to x e=(if x="not"then !zdh ws ms to e else phB ws ms to x e);rw[if_neg z]⟩
end
section
variable{P:Program}{w:World}{K:PySem.W.Frag}{mg:Str->Option Value}{base:Heap}
theorem zea(Y:Ev K mg):FnOk P w K mg base CX0 4 Y.a_all_hold Y.d_all_hold zaW zin:=by
 have G_holds:FnOk P w K mg base CX0 3 Y.a_holds Y.d_holds zbP (zdE zL zbb):=zlK Y
 refine Y.all_hold.fn.okQ c_all_hold (λvs H Q E h=>?_) (λcdv A outer s H vs Q E hr h=>?_)
 ·obtain ⟨v,cs,pw,pm,vt,ws,ms,to,rfl,_⟩:=h;rfl
 ·obtain ⟨v,cs,pw,pm,vt,ws,ms,to,rfl,hd,hcs,hpw,hpm,hto,nw,nm,w1,lw,lm,q⟩:=h
  obtain⟨pc,uc,rfl,hpc,rc,_⟩:=hd.ofT
  refine⟨_,(zg (zbx PassesOwn.never rfl (zbY (qv 0)) (zt 4 c_all_hold.nd) (zm (zas (zfq (zeW (zj G_holds (hr.mono (by decide)) Y.holds.mg Y.holds.kp Y.holds.b .nil zo (za (qv 4) (za (qv 1) (za (qv 2) (za (qv 3) zc))))))) (zm (zx zcb)) zS)))
   (zm (zx zcb))),?_⟩
  refine⟨_,rfl,pc,rfl,⟨_, .inl (.inl hpc)⟩,?_⟩
  refine za9 (zaU (K:=K) (xs:=uc)) (λi σ' H'=>(∃o4,σ'=[some (.ref pc),some (.ref pw),some (.ref pm),some vt,o4])/\(cs.take i).all (zbb ws ms to)=true/\Same H H') ⟨⟨_,rfl⟩,rfl,Same.refl _⟩ (λi σ' H' z=> .inl (.inl (z.2.2 _ _ hpc))) ?_ ?_
  ·rintro i y σ' H1 hi hy ⟨⟨o4,rfl⟩,ha,s1⟩
   obtain⟨c,hc,rcc⟩:=rc.get hy
   have hcm:=List.mem_of_getElem? hc
   have tk:(cs.take (i+1)).all (zbb ws ms to)=((cs.take i).all (zbb ws ms to)&&zbb ws ms to c):=by
    rw[List.take_add_one,hc,List.all_append];simp
   refine⟨_,rfl,_,rfl,_,rfl,_,rfl,y,c,pw,pm,vt,ws,ms,to,rfl,rcc.same s1,hcs c hcm,s1 _ _ hpw,s1 _ _ hpm,hto,nw,nm,w1,lw,lm,λH2 s2=>⟨_,rfl,?_⟩⟩
   cases hb:zbb ws ms to c with
   |false=>
    have e:zcH ws ms to cs=false:=List.all_eq_false.mpr ⟨c,hcm,by rw[hb];decide⟩
    have q:=q H2 (s1.trans s2)
    rw[e] at q
    exact zc6 rfl q
   |true=>exact zbC rfl ⟨⟨_,rfl⟩,by rw[tk,ha,hb];rfl,s1.trans s2⟩
  ·rintro σ' H1 ⟨⟨o4,rfl⟩,ha,s1⟩
   rw[rc.1,List.take_length] at ha
   have q:=q H1 s1
   have e:zcH ws ms to cs=true:=ha
   rw[e] at q
   exact q
theorem zfi(Y:Ev K mg):FnOk P w K mg base CX0 1 Y.a_likings_of Y.d_likings_of zbd zpU:=by
 refine Y.likings_of.fn.okQ zgw (λvs H Q E h=>?_) (λcdv A outer s H vs Q E hr h=>?_)
 ·obtain ⟨v,x,g,hs,ps,lks,hds,j,rfl,_⟩:=h;rfl
 ·obtain ⟨v,x,g,hs,ps,lks,hds,j,rfl,hv,T,hj,q⟩:=h
  obtain⟨p,pr,pt,pl,pa,vt,vl,va,rfl,hp,hpr,hpt,rt,hpl,rl,hpa,ra⟩:=zbv hv
  have hjl:j<hs.length:=by
   rcases Nat.lt_or_ge j hs.length with y|y
   ·exact y
   ·rw[List.getElem?_eq_none y] at hj;cases hj
  have hjk:j<lks.length:=by rw[T.ll];exact hjl
  have hjv:j<vl.length:=by rw[rl.1];exact hjk
  refine⟨_,(zm (zx (zT ix_tup (zT ix_tup (qv 0) zf) (zgk PySem.F.plainAttrs_tuple PySem.F.slot_tuple_index PySem.F.type_tuple_index zfE (zT ix_tup (qv 0) zf) (za (qv 1) zc))))),?_⟩
  refine⟨_,rfl,p,_,3,_,rfl,rfl, .inl (.inl hp),zU (j:=3) rfl,?_⟩
  refine⟨_,rfl,p,_,1,_,rfl,rfl, .inl (.inl hp),zU (j:=1) rfl,?_⟩
  refine⟨.inr (.inr (.inr (.inr ⟨rfl,_,hpr⟩))),_,rfl,pr,hs,x,j,rfl,rfl, .inl (.inl hpr),hj,zgZ T.hs_nd hj,?_⟩
  exact⟨pl,_,_,vl[j],rfl,rfl, .inl (.inl hpl),zU (by simp[hjv]),q _ lks[j] (List.getElem?_eq_getElem hjk) (rl.2 j _ _ (List.getElem?_eq_getElem hjv) (List.getElem?_eq_getElem hjk))⟩
theorem zeE(Y:Ev K mg):FnOk P w K mg base CX0 5 Y.a_worth Y.d_worth zcr zeo:=by
 have G_all_hold:FnOk P w K mg base CX0 4 Y.a_all_hold Y.d_all_hold zaW zin:=zea Y
 have G_likings_of:FnOk P w K mg base CX0 1 Y.a_likings_of Y.d_likings_of zbd zpU:=zfi Y
 refine Y.worth.fn.okQ c_worth (λvs H Q E h=>?_) (λcdv A outer s H vs Q E hr h=>?_)
 ·obtain ⟨v,pw,pm,x,ws,ms,g,hs,ps,lks,hds,j,rs,rfl,_⟩:=h;rfl
 ·obtain ⟨v,pw,pm,x,ws,ms,g,hs,ps,lks,hds,j,rs,rfl,hv,T,hj,hlj,hpw,hpm,nw,nm,lw,lm,q⟩:=h
  have hlk:rs.length<=90/\∀r∈rs,zQ r=true:=by
   have h:=T.likes _ (List.mem_of_getElem? hlj)
   have h:(decide (rs.length<=90)&&rs.all zQ)=true:=h
   rw[Bool.and_eq_true] at h
   exact⟨of_decide_eq_true h.1,List.all_eq_true.mp h.2⟩
  refine⟨_,(zg (zbx PassesOwn.never rfl (zbY (zj G_likings_of (hr.mono (by decide)) Y.likings_of.mg Y.likings_of.kp Y.likings_of.b .nil zo (za (qv 0) (za (zT ix_tup (qv 1) zf) zc)))) (zda 2 rfl (zH (zt 3 c_worth.nd) (zH (zt 4 c_worth.nd) zbK))) (zm (zas (zeW (zj G_all_hold (hr.mono (by decide)) Y.all_hold.mg Y.all_hold.kp Y.all_hold.bd (.cons (a:=V.non) rfl .nil) zo (za (qv 3) (za (qv 1) (za (qv 2) zc))))) (zm (zx (qv 4))) zS)))
   (zm (zx zf))),?_⟩
  refine⟨_,rfl,_,rfl,pw,_,0,_,rfl,rfl, .inl (.inl hpw),at0,v,x,g,hs,ps,lks,hds,j,rfl,hv,T,hj,λvr d hd rd=>?_⟩
  rw[hlj] at hd
  cases hd
  obtain⟨pq,us,rfl,hpq,ru,_⟩:=rd.ofT
  refine⟨pq,rfl,⟨_, .inl (.inl hpq)⟩,?_⟩
  refine za9 (zaU (K:=K) (xs:=us)) (λi σ' H'=>(∃o3 o4,σ'=[some v,some (.ref pw),some (.ref pm),o3,o4])/\zw (x::ws) ms rs=zw (x::ws) ms (rs.drop i)/\Same H H') ⟨⟨_,_,rfl⟩,rfl,Same.refl _⟩ (λi σ' H' z=> .inl (.inl (z.2.2 _ _ hpq))) ?_ ?_
  ·rintro i y σ' H1 hi hy ⟨⟨o3,o4,rfl⟩,hw,s1⟩
   obtain⟨r,hr',rr⟩:=ru.get hy
   obtain⟨cs,t,rfl,c4,hcs,ht⟩:=zfp (hlk.2 r (List.mem_of_getElem? hr'))
   obtain⟨q0,v0,v1,rfl,hq0,r0,r1⟩:=(rr.same s1).of2
   refine⟨q0,_,rfl, .inl (.inl hq0),rfl,_,_,rfl,_,_,rfl,rfl,?_⟩
   refine⟨_,rfl,_,rfl,_,rfl,v0,cs,pw,pm, .non,x::ws,ms,none,rfl,r0,hcs,s1 _ _ hpw,s1 _ _ hpm, .inl ⟨rfl,rfl⟩,nw,nm,by simp,by simp;omega,lm,λH2 s2=>⟨_,rfl,?_⟩⟩
   rw[ziN hr',zw] at hw
   have er:zcH (x::ws) ms none (zc9 (.tup [.tup cs,t]))=zcH (x::ws) ms none cs:=rfl
   rw[er] at hw
   cases hb:zcH (x::ws) ms none cs with
   |true=>
    rw[hb,if_pos rfl] at hw
    exact zc6 rfl ⟨_,rfl,q _ H2 (by rw[hw];exact r1.same s2) (s1.trans s2)⟩
   |false=>
    rw[hb,if_neg (by decide)] at hw
    exact zbC rfl ⟨⟨_,_,rfl⟩,hw,s1.trans s2⟩
  ·rintro σ' H1 ⟨⟨o3,o4,rfl⟩,hw,s1⟩
   rw[ru.1,List.drop_length,zw] at hw
   exact q _ H1 (by rw[hw];exact .int 0) s1
theorem zhy(Y:Ev K mg):FnOk P w K mg base CX0 1 Y.a_hands_of Y.d_hands_of zbU zph:=by
 refine Y.hands_of.fn.okQ ziw (λvs H Q E h=>?_) (λcdv A outer s H vs Q E hr h=>?_)
 ·obtain ⟨v,x,g,hs,ps,lks,hds,j,rfl,_⟩:=h;rfl
 ·obtain ⟨v,x,g,hs,ps,lks,hds,j,rfl,hv,T,hj,q⟩:=h
  obtain⟨p,pr,pt,pl,pa,vt,vl,va,rfl,hp,hpr,hpt,rt,hpl,rl,hpa,ra⟩:=zbv hv
  have hjl:j<hs.length:=by
   rcases Nat.lt_or_ge j hs.length with y|y
   ·exact y
   ·rw[List.getElem?_eq_none y] at hj;cases hj
  have hjk:j<hds.length:=by rw[T.lh];exact hjl
  have hjv:j<va.length:=by rw[ra.1];exact hjk
  refine⟨_,(zm (zx (zT ix_tup (zT ix_tup (qv 0) zf) (zgk PySem.F.plainAttrs_tuple PySem.F.slot_tuple_index PySem.F.type_tuple_index zfE (zT ix_tup (qv 0) zf) (za (qv 1) zc))))),?_⟩
  refine⟨_,rfl,p,_,4,_,rfl,rfl, .inl (.inl hp),zU (j:=4) rfl,?_⟩
  refine⟨_,rfl,p,_,1,_,rfl,rfl, .inl (.inl hp),zU (j:=1) rfl,?_⟩
  refine⟨.inr (.inr (.inr (.inr ⟨rfl,_,hpr⟩))),_,rfl,pr,hs,x,j,rfl,rfl, .inl (.inl hpr),hj,zgZ T.hs_nd hj,?_⟩
  exact⟨pa,_,_,va[j],rfl,rfl, .inl (.inl hpa),zU (by simp[hjv]),q _ hds[j] (List.getElem?_eq_getElem hjk) (ra.2 j _ _ (List.getElem?_eq_getElem hjv) (List.getElem?_eq_getElem hjk))⟩
theorem zeg(Y:Ev K mg):FnOk P w K mg base CX0 1 Y.a_marks_behind Y.d_marks_behind zaz zg3:=by
 refine Y.marks_behind.fn.okQ c_marks_behind (λvs H Q E h=>?_) (λcdv A outer s H vs Q E hr h=>?_)
 ·obtain ⟨pm,v,t,w',m,rfl,_⟩:=h;rfl
 ·obtain ⟨pm,v,t,w',m,rfl,hpm,hv,tn,mn,nd,l13,q⟩:=h
  obtain⟨pa,v0,v1,rfl,hpa,r0,r1⟩:=hv.of2
  cases r0 with|str _ _=>
  cases r1 with|str _ _=>
  refine⟨_,(zg (zd6 (qv 1) (zda 2 rfl (zH (zt 2 c_marks_behind.nd) (zH (zgB 3 c_marks_behind.nd) zbK))))
   (zg (zdQ 4 (src:=[none,some 3]) o_marks_behind_1 rfl rfl c_marks_behind.nd (zbY (qv 0)) (λ_ _ _ _ _=>(zt 0 o_marks_behind_1.nd)) (λ_ _ _ _ _=>(zhr (zI znH (qv 0) (qc 1)))) (λ_ _ _ _ _=>(qv 0)))
   (zg (zas (zI zak (qv 2) zav) (zm (zdc (zgk PySem.F.plainAttrs_list PySem.F.slot_list_append PySem.F.type_list_append zaD (qv 4) (za (qc 3) zc)))) zS)
   (zm (zx (zX zG Y.tuple zax (za (zz zdH Y.sorted zce (za (qv 4) zc)) zc))))))),?_⟩
  refine⟨_,rfl,pa,_,rfl, .inl (.inl hpa),rfl,_,_,rfl,_,_,rfl,rfl,?_⟩
  refine⟨_,rfl,pm,rfl,⟨_, .inl (.inl hpm)⟩,?_⟩
  refine zmB (g:=neD m) (f:=λd=>d) (σr:=[some (.str m)]) (zaU (K:=K)) (λH' s'=> .inl (.inl (s' _ _ hpm))) (zbZ λy hy=>zC (tn y hy)) (by rw[List.length_map];omega) rfl ?_ (λx d HA sA rx hd=>by walk_at "dsp") λl1 us H1 s1 hl1 e1 r1=>?_
  ·intro z d HA Q1 sA rz hd q1
   obtain⟨b,_,rfl⟩:=List.mem_map.mp hd
   cases rz with|str _ _=>
   refine⟨_,rfl,_,rfl,rfl,_,rfl,?_⟩
   rw[zch]
   exact q1 HA (Same.refl _)
  rw[zoO] at r1
  have eus:=zjA r1
  subst eus
  have lf:=List.length_filter_le (λx=>!decide (x=m)) t
  dsimp only[zbi]
  have fin:∀(H2:Hp),H2 l1=some (.lst ((zaX t w' m).map V.str))->Same H H2->∀(ss:List Str) (l2:Addr),ss.Perm (zaX t w' m)->sortedS ss=true->H2 l2=none->∃p ys,[V.ref l2]=[.ref p]/\((SqL K (upd H2 l2 (.lst (ss.map V.str))) p ys/\∀l,upd H2 l2 (.lst (ss.map V.str)) l=none->Q (.ref l) (upd (upd H2 l2 (.lst (ss.map V.str))) l (.tup ys)))\/(SqT K (upd H2 l2 (.lst (ss.map V.str))) p ys/\Q (.ref p) (upd H2 l2 (.lst (ss.map V.str))))):=λH2 e2 s2 ss l2 hp2 hs2 hl2=>⟨l2,_,rfl, .inl ⟨SqL.of zb,λp hp=>by
   have es:=zoH hp2 hs2 (zdX nd)
   subst es
   exact q p _ zb ((s2.trans (Same.new hl2)).trans (Same.new hp))⟩⟩
  refine⟨_,rfl,rfl,_,rfl,zbS (λe=>?_) (λe=>?_)⟩
  ·have ew:=V.str.inj (of_decide_eq_true e)
   have eb:zaX t w' m=t.filter (λx=>!decide (x=m))++ [m]:=by unfold zaX;rw[if_pos ew]
   refine⟨_,rfl, .inl ⟨rfl,_,SqL.of e1⟩,_,rfl,l1,_,_,rfl,rfl,e1,zn (by rw[List.length_map];omega),?_⟩
   have e2:(upd H1 l1 (.lst ((t.filter λx=>!decide (x=m)).map V.str ++ [V.str m]))) l1=some (.lst ((zaX t w' m).map V.str)):=by rw[zb,eb,List.map_append];rfl
   have s2:Same H (upd H1 l1 (.lst ((t.filter λx=>!decide (x=m)).map V.str ++ [V.str m]))):=λc o z=>by rw[ze (zi z hl1)];exact s1 _ _ z
   generalize (upd H1 l1 (HO.lst ((t.filter λx=>!decide (x=m)).map V.str ++ [V.str m])))=H2 at *
   exact⟨_,rfl,l1,zaX t w' m,rfl, .inl (SqL.of e2),by rw[eb,List.length_append,List.length_singleton];omega,fin H2 e2 s2⟩
  ·have ew:¬w'="put":=λz=>e (decide_eq_true (by rw[z]))
   have eb:zaX t w' m=t.filter (λx=>!decide (x=m)):=by unfold zaX;rw[if_neg ew,List.append_nil]
   have e2:H1 l1=some (.lst ((zaX t w' m).map V.str)):=by rw[eb];exact e1
   exact⟨_,rfl,l1,zaX t w' m,rfl, .inl (SqL.of e2),by rw[eb];omega,fin H1 e2 s1⟩
theorem zfJ(Y:Ev K mg):FnOk P w K mg base CX0 5 Y.a_handed Y.d_handed zcf zez:=by
 have G_all_hold:FnOk P w K mg base CX0 4 Y.a_all_hold Y.d_all_hold zaW zin:=zea Y
 have G_hands_of:FnOk P w K mg base CX0 1 Y.a_hands_of Y.d_hands_of zbU zph:=zhy Y
 have G_marks_behind:FnOk P w K mg base CX0 1 Y.a_marks_behind Y.d_marks_behind zaz zg3:=zeg Y
 refine Y.handed.fn.okQ c_handed (λvs H Q E h=>?_) (λcdv A outer s H vs Q E hr h=>?_)
 ·obtain ⟨v,pw,pm,vt,x,ws,ms,to,g,hs,ps,lks,hds,j,rs,O,rfl,_⟩:=h;rfl
 ·obtain ⟨v,pw,pm,vt,x,ws,ms,to,g,hs,ps,lks,hds,j,rs,O,rfl,hv,T,hj,hdj,HO',O13,On,M0,hpw,hpm,hto,nw,lw,q⟩:=h
  refine⟨_,(zg (zB 4 c_handed.nd (qv 2))
   (zg (zbx PassesOwn.never rfl (zbY (zj G_hands_of (hr.mono (by decide)) Y.hands_of.mg Y.hands_of.kp Y.hands_of.b .nil zo (za (qv 0) (za (zT ix_tup (qv 1) zf) zc)))) (zda 2 rfl (zH (zt 5 c_handed.nd) (zH (zt 6 c_handed.nd) zbK))) (zg (zas (zfq (zeW (zj G_all_hold (hr.mono (by decide)) Y.all_hold.mg Y.all_hold.kp Y.all_hold.b .nil zo (za (qv 5) (za (qv 1) (za (qv 4) (za (qv 3) zc))))))) (zm zkT) zS)
   (zg (zas (zI zak (zT ix_tup (qv 6) zf) zav) (zm (zx zcz)) zS)
   (zm (zB 4 c_handed.nd (zj G_marks_behind (hr.mono (by decide)) Y.marks_behind.mg Y.marks_behind.kp Y.marks_behind.b .nil zo (za (qv 4) (za (qv 6) zc))))))))
   (zm (zx (qv 4))))),?_⟩
  refine⟨_,rfl,?_⟩
  refine⟨_,rfl,_,rfl,pw,_,0,_,rfl,rfl, .inl (.inl hpw),at0,v,x,g,hs,ps,lks,hds,j,rfl,hv,T,hj,λvr d hd rd=>?_⟩
  rw[hdj] at hd
  cases hd
  obtain⟨pq,us,rfl,hpq,ru,_⟩:=rd.ofT
  refine⟨pq,rfl,⟨_, .inl (.inl hpq)⟩,?_⟩
  refine za9 (zaU (K:=K) (xs:=us)) (λi σ' H'=>(∃pt t o5 o6,σ'=[some v,some (.ref pw),some (.ref pm),some vt,some (.ref pt),o5,o6]/\H' pt=some (.tup (t.map V.str))/\Mk O t/\zv (x::ws) to rs ms=zv (x::ws) to (rs.drop i) t)/\Same H H') ⟨⟨pm,ms,_,_,rfl,hpm,M0,rfl⟩,Same.refl _⟩ (λi σ' H' z=> .inl (.inl (z.2 _ _ hpq))) ?_ ?_
  ·rintro i y σ' H1 hi hy ⟨⟨pt,t,o5,o6,rfl,hpt,Mt,he⟩,s1⟩
   obtain⟨r,hr',rr⟩:=ru.get hy
   obtain⟨cs,xa,rfl,hcs,hx⟩:=HO'.2 r (List.mem_of_getElem? hr')
   obtain⟨q0,v0,v1,rfl,hq0,r0,r1⟩:=(rr.same s1).of2
   have tl:=Mt.len O13
   have tn:∀y∈t,zh y=true:=λy hy=>On y (Mt.mem y hy)
   refine⟨q0,_,rfl, .inl (.inl hq0),rfl,_,_,rfl,_,_,rfl,rfl,?_⟩
   refine⟨_,rfl,_,rfl,_,rfl,_,rfl,v0,cs,pw,pt,vt,x::ws,t,to,rfl,r0,hcs,s1 _ _ hpw,hpt,hto,nw,tn,by simp,by simp;omega,by omega,λH2 s2=>⟨_,rfl,?_⟩⟩
   rw[ziN hr',zv] at he
   have er:zcH (x::ws) t to (zc9 (.tup [.tup cs,xa]))=zcH (x::ws) t to cs:=rfl
   have et:zkH (.tup [.tup cs,xa])=xa:=rfl
   rw[er,et] at he
   cases hb:zcH (x::ws) t to cs with
   |false=>
    rw[hb,if_neg (by decide)] at he
    exact zc6 rfl ⟨⟨pt,t,_,_,rfl,s2 _ _ hpt,Mt,he⟩,s1.trans s2⟩
   |true=>
    rw[hb,if_pos rfl] at he
    refine zbC rfl ?_
    rcases hx with rfl|⟨w1,m1,rfl,hw1,hm1⟩
    ·obtain ⟨pa,ua,rfl,hpa,ra',_⟩:=(r1.same s2).ofT
     have la:ua.length=1:=ra'.1
     obtain⟨u0,rfl⟩:∃u0,ua=[u0]:=by
      match ua,la with
      |[u0],_=>exact ⟨u0,rfl⟩
     have h0:=ra'.head.1
     cases h0 with|str _ _=>
     refine⟨_,rfl,pa,_,0,_,rfl,rfl, .inl (.inl hpa),at0,rfl,_,rfl,zc6 (by rw[decide_eq_true rfl]) ?_⟩
     exact q .non H2 (by rw[he];rfl) (s1.trans s2)
    ·obtain ⟨pa,z0,z1,rfl,hpa,rz0,rz1⟩:=(r1.same s2).of2
     cases rz0 with|str _ _=>
     have nk:decide (V.str w1=V.str "keep")=false:=by
      rw[zch]
      rcases hw1 with rfl|rfl<;>decide +kernel
     refine⟨_,rfl,pa,_,0,_,rfl,rfl, .inl (.inl hpa),at0,rfl,_,rfl,zbC nk ?_⟩
     refine⟨_,rfl,_,rfl,pt, .ref pa,t,w1,m1,rfl,s2 _ _ hpt,r1.same s2,tn,On m1 hm1,Mt.nd,tl,λp3 H3 e3 s3=>?_⟩
     exact⟨⟨p3,_,_,_,rfl,e3,Mt.next hm1,he⟩,(s1.trans s2).trans s3⟩
  ·rintro σ' H1 ⟨⟨pt,t,o5,o6,rfl,hpt,Mt,he⟩,s1⟩
   rw[ru.1,List.drop_length,zv] at he
   exact⟨_,rfl,q _ H1 (by rw[he];exact⟨pt,rfl,hpt⟩) s1⟩
end
section
variable{P:Program}{w:World}{K:PySem.W.Frag}{mg:Str->Option Value}{base:Heap}
theorem zgQ{g:Str}{hs:List Str}{ps:List (Str×Str)}{lks hds:List D}(T:TownOk g hs ps lks hds){x:Str}(h:x∈hs):∃(j:Nat) (rs:List D),hs[j]?=some x/\lks[j]?=some (.tup rs)/\zO hs lks x=rs:=by
 obtain⟨j,hj,e⟩:=List.getElem_of_mem h
 have hl:j<lks.length:=by rw[T.ll];exact hj
 have hd:=T.likes _ (List.getElem_mem hl)
 cases ed:lks[j] with
 |tup rs=>
  have e1:hs[j]?=some x:=by rw[List.getElem?_eq_getElem hj,e]
  have e2:lks[j]?=some (.tup rs):=by rw[List.getElem?_eq_getElem hl,ed]
  exact⟨j,rs,e1,e2,zcp T.hs_nd e1 e2⟩
 |_=>rw[ed] at hd;cases hd
theorem zk9{g:Str}{hs:List Str}{ps:List (Str×Str)}{lks hds:List D}{O:List Str}(T:TownOk g hs ps lks hds)(PO:Pool hs lks hds O){x:Str}(h:x∈hs):∃(j:Nat) (rs:List D),hs[j]?=some x/\hds[j]?=some (.tup rs)/\zO hs hds x=rs/\zdt O rs:=by
 obtain⟨j,d,e1,e2,hm⟩:=zoR T h
 obtain⟨rs,rfl,hk⟩:=zjL (T.hands d hm) (PO.hd d hm)
 exact⟨j,rs,e1,e2,zcp T.hs_nd e1 e2,hk⟩
theorem zbA{g:Str}{hs:List Str}{ps:List (Str×Str)}{lks hds:List D}{O:List Str}(T:TownOk g hs ps lks hds)(PO:Pool hs lks hds O):∀{w t:List Str},(∀y∈w,y∈hs)->zk hs lks hds w=some t->Mr O t
 |[],t,_,e=>by rw[zk] at e;cases e;exact Mr.nil
 |[_],t,_,e=>by rw[zk] at e;cases e;exact Mr.nil
 |y::x::ws,t,h,e=>by
  rw[zk] at e
  have h':=λz hz=>h z (List.mem_cons_of_mem _ hz)
  cases e2:zk hs lks hds (x::ws)with
  |none=>rw[e2] at e;cases e
  |some t2=>
   rw[e2] at e
   obtain⟨j,rs,_,_,er,hk⟩:=zk9 T PO (h' x List.mem_cons_self)
   exact zlf (w:=x::ws) (by show zdt O (zO hs hds x);rw[er];exact hk) (zbA T PO h' e2) e
theorem zcy{hs:List Str}{lks hds:List D}:∀{w:List Str} {k:Nat},k<w.length->zk hs lks hds (w.drop k)=none->zk hs lks hds w=none
 |w,0,_,e=>by rw[List.drop_zero] at e;exact e
 |[],k+1,h,_=>by simp at h
 |[y],k+1,h,_=>by simp at h
 |y::x::ws,k+1,h,e=>by
  have:=zcy (w:=x::ws) (k:=k) (by simpa using h) e
  rw[zk,this]
def zgj:Sp:=λvs H Q _=>∃(v:V) (pw pm:Addr) (y x:Str) (ws ms:List Str) (g:Str) (hs:List Str) (ps:List (Str×Str)) (lks hds:List D) (O:List Str),vs=[v, .ref pw, .ref pm, .str y]/\Rep H v (zaB g hs ps lks hds)/\TownOk g hs ps lks hds/\Pool hs lks hds O/\(∀z∈y::x::ws,z∈hs)/\Mr O ms/\H pw=some (.tup ((x::ws).map V.str))/\H pm=some (.tup (ms.map V.str))/\ws.length<=80/\∀(u:V) (H':Hp),Told H' u (zao hs lks hds y (x::ws) ms)->Same H H'->Q u H'
theorem zcS(Y:Ev K mg):FnOk P w K mg base CX0 6 Y.a_marks_ahead Y.d_marks_ahead zan zgj:=by
 have G_handed:FnOk P w K mg base CX0 5 Y.a_handed Y.d_handed zcf zez:=zfJ Y
 have G_worth:FnOk P w K mg base CX0 5 Y.a_worth Y.d_worth zcr zeo:=zeE Y
 refine Y.marks_ahead.fn.okQ c_marks_ahead (λvs H Q E h=>?_) (λcdv A outer s H vs Q E hr h=>?_)
 ·obtain ⟨v,pw,pm,y,x,ws,ms,g,hs,ps,lks,hds,O,rfl,_⟩:=h;rfl
 ·obtain ⟨v,pw,pm,y,x,ws,ms,g,hs,ps,lks,hds,O,rfl,hv,T,PO,hw,M,hpw,hpm,lw,q⟩:=h
  have hy:=hw y List.mem_cons_self
  have hx:=hw x (List.mem_cons_of_mem _ List.mem_cons_self)
  have hn:∀z∈y::x::ws,zh z=true:=λz hz=>T.names z (hw z hz)
  obtain⟨j,rs,hj,hdj,er,hk⟩:=zk9 T PO hx
  obtain⟨j2,rs2,hj2,hlj2,er2⟩:=zgQ T hy
  have ea0:zv (x::ws) (some y) rs ms=none->zao hs lks hds y (x::ws) ms=none:=λe=>by
   unfold zao
   rw[show(x::ws).headD ""=x from rfl,er,e]
  have ea1:∀t,zv (x::ws) (some y) rs ms=some t->zao hs lks hds y (x::ws) ms=if zdj (zw (y::x::ws) t rs2)=true then none else some t:=λt e=>by
   unfold zao
   rw[show(x::ws).headD ""=x from rfl,er,er2,e]
  refine⟨_,(zg (zB 4 c_marks_ahead.nd (zj G_handed (hr.mono (by decide)) Y.handed.mg Y.handed.kp Y.handed.b .nil zo (za (qv 0) (za (qv 1) (za (qv 2) (za (qv 3) zc))))))
   (zg (zas (t_w (zmQ (zI zeC (qv 4) zcz) (ziC (zI zeC (zj G_worth (hr.mono (by decide)) Y.worth.mg Y.worth.kp Y.worth.b .nil zo (za (qv 0) (za (zJ zbt (zD (za (qv 3) zc)) (qv 1)) (za (qv 4) zc)))) zcz)))) (zm (zx zcz)) zS)
   (zm (zx (qv 4))))),?_⟩
  refine⟨_,rfl,_,rfl,_,rfl,_,rfl,v,pw,pm, .str y,x,ws,ms,some y,g,hs,ps,lks,hds,j,rs,O,rfl,hv,T,hj,hdj,hk,PO.few,PO.nm,M.toMk,hpw,hpm, .inr ⟨y,rfl,rfl,hn y List.mem_cons_self⟩,λz hz=>hn z (List.mem_cons_of_mem _ hz),by omega,λu H1 tu s1=>?_⟩
  cases e:zv (x::ws) (some y) rs ms with
  |none=>
   rw[e] at tu
   rw[ea0 e] at q
   cases(show u= .non from tu)
   exact⟨_,rfl,rfl,_,rfl,zc6 rfl (zc6 rfl (q _ _ rfl s1))⟩
  |some t=>
   rw[e] at tu
   rw[ea1 t e] at q
   obtain⟨p,rfl,hp⟩:=tu
   have Mt:=zcX hk.2 M e
   refine⟨_,rfl,rfl,_,rfl,zbC rfl ?_⟩
   refine⟨_,rfl,_,rfl,few rfl,λp1 hp1=>⟨_,rfl,p1,pw,_,_,rfl,rfl, .inl (.inl zb), .inl (.inl (Same.new hp1 _ _ (s1 _ _ hpw))),Nat.le_of_lt (zn (by rw[List.length_map];show 1+(ws.length+1)<=_;omega)),(λz=>nomatch z),(λ_ z=>nomatch z),λ_ _ p2 hp2=>?_⟩⟩
   have S1:=Same.new (o:= .tup [V.str y]) hp1
   have S2:=Same.new (o:= .tup ([V.str y]++(x::ws).map V.str)) hp2
   have s03:=(s1.trans S1).trans S2
   refine⟨_,rfl,v,p2,p,y,x::ws,t,g,hs,ps,lks,hds,j2,rs2,rfl,hv.same s03,T,hj2,hlj2,zb,S2 _ _ (S1 _ _ hp),hn,λz hz=>PO.nm z (Mt.mem z hz),by show ws.length+1<=90;omega,Nat.le_trans (Mt.toMk.len PO.few) (by decide),λu2 H4 r4 s4=>?_⟩
   refine⟨rfl,_,rfl,?_⟩
   rw[ziQ r4]
   have s04:=s03.trans s4
   cases hb:zdj (zw (y::x::ws) t rs2)with
   |true=>
    rw[hb,if_pos rfl] at q
    exact zc6 rfl (q _ _ rfl s04)
   |false=>
    rw[hb,if_neg (by decide)] at q
    exact zbC rfl ⟨_,rfl,q _ _ ⟨p,rfl,s4 _ _ (S2 _ _ (S1 _ _ hp))⟩ s04⟩
def zcd:Sp:=λvs H Q _=>∃(v:V) (pw:Addr) (w:List Str) (g:Str) (hs:List Str) (ps:List (Str×Str)) (lks hds:List D) (O:List Str),vs=[v, .ref pw]/\Rep H v (zaB g hs ps lks hds)/\TownOk g hs ps lks hds/\Pool hs lks hds O/\(∀z∈w,z∈hs)/\H pw=some (.tup (w.map V.str))/\1<=w.length/\w.length<=80/\∀(u:V) (H':Hp),Told H' u (zk hs lks hds w)->Same H H'->Q u H'
theorem zb7(Y:Ev K mg):FnOk P w K mg base CX0 7 Y.a_marks_of Y.d_marks_of zay zcd:=by
 have G_marks_ahead:FnOk P w K mg base CX0 6 Y.a_marks_ahead Y.d_marks_ahead zan zgj:=zcS Y
 refine Y.marks_of.fn.okQ c_marks_of (λvs H Q E h=>?_) (λcdv A outer s H vs Q E hr h=>?_)
 ·obtain ⟨v,pw,w,g,hs,ps,lks,hds,O,rfl,_⟩:=h;rfl
 ·obtain ⟨v,pw,w,g,hs,ps,lks,hds,O,rfl,hv,T,PO,hw,hpw,w1,w80,q⟩:=h
  refine⟨_,(zg (zB 2 c_marks_of.nd (zD zc))
   (zg (zbx PassesOwn.never rfl (zoC Y.range Y.reversed (za (zJ zlz (zz z8 Y.len zbs (za (qv 1) zc)) zf) zc)) (zt 3 c_marks_of.nd) (zg (zB 2 c_marks_of.nd (zj G_marks_ahead (hr.mono (by decide)) Y.marks_ahead.mg Y.marks_ahead.kp Y.marks_ahead.b .nil zo (za (qv 0) (za (zc3 zaH (qv 1) (zaO (zJ zab (qv 3) zf)) zaQ) (za (qv 2) (za (zT ix_tup (qv 1) (qv 3)) zc))))))
   (zm (zas (zI zeC (qv 2) zcz) (zm (zx zcz)) zS))))
   (zm (zx (qv 2))))),?_⟩
  refine⟨few rfl,λp0 hp0=>?_⟩
  have S0:=Same.new (o:= .tup []) hp0
  have hp0':upd H p0 (.tup []) p0=some (.tup (([]:List Str).map V.str)):=zb
  generalize upd H p0 (HO.tup [])=H0 at *
  have nn:((w.map V.str).length:Int) -1=((w.length -1:Nat):Int):=by rw[List.length_map];omega
  refine⟨_,rfl, .inl ⟨pw,_,rfl, .inr (.inl (.inl (S0 _ _ hpw))),_,_,rfl,rfl,w.length -1,by show [V.int (((w.map V.str).length:Int) -1)]=_;rw[nn],by omega,?_⟩⟩
  have d0:zk hs lks hds (w.drop (w.length -1))=some []:=by
   rw[List.drop_eq_getElem_cons (by omega),List.drop_eq_nil_of_le (by omega),zk]
  refine za9 zl9 (λi σ' H'=>(∃pm ms o3,σ'=[some v,some (.ref pw),some (.ref pm),o3]/\H' pm=some (.tup (ms.map V.str))/\zk hs lks hds (w.drop (w.length -1 -i))=some ms)/\Same H H') ⟨⟨p0,[],_,rfl,hp0',d0⟩,S0⟩ (λ_ _ _ _=>trivial) ?_ ?_
  ·rintro i y σ' H1 hi rfl ⟨⟨pm,ms,o3,rfl,hpm,hms⟩,s1⟩
   obtain⟨k,hk⟩:∃k:Nat,k=w.length -1 -1 -i:=⟨_,rfl⟩
   have hk1:w.length -1 -i=k+1:=by omega
   have ei:((w.length -1:Nat):Int) -1 -(i:Int)=(k:Int):=by omega
   have hkl:k<w.length:=by omega
   rw[hk1] at hms
   rw[ei]
   obtain⟨x,ws,ew⟩:∃x ws,w.drop (k+1)=x::ws:=by
    rw[List.drop_eq_getElem_cons (by omega)];exact⟨_,_,rfl⟩
   have lws:ws.length<=80:=by have:=congrArg List.length ew;rw[List.length_drop,List.length_cons] at this;omega
   have ed:w.drop k=w[k]::x::ws:=by rw[List.drop_eq_getElem_cons hkl,ew]
   have hin:∀z∈w[k]::x::ws,z∈hs:=λz hz=>hw z (List.mem_of_mem_drop (by rw[ed];exact hz))
   rw[ew] at hms
   have Mm:=zbA T PO (λz hz=>hin z (List.mem_cons_of_mem _ hz)) hms
   have e1:((k:Int)+1)=((k+1:Nat):Int):=by omega
   have ec:zaY (w.map V.str) (some ((k:Int)+1)) none=(x::ws).map V.str:=by rw[e1,zby,←List.map_drop,ew]
   refine⟨_,rfl,_,rfl,_,rfl,_,_,rfl,rfl,_,rfl,pw,_,rfl, .inl (.inl (s1 _ _ hpw)),?_,λp2 hp2=>?_⟩
   ·intro z
    rw[ec] at z
    have:=congrArg List.length z
    rw[List.length_map,List.length_map,←ew,List.length_drop] at this
    omega
   rw[ec] at *
   have S2:=Same.new (o:= .tup ((x::ws).map V.str)) hp2
   refine⟨_,rfl,_,rfl,_,rfl,pw,_,_, .str w[k],rfl,rfl, .inl (.inl (S2 _ _ (s1 _ _ hpw))),zU (by rw[List.getElem?_map,List.getElem?_eq_getElem hkl];rfl),v,p2,pm,w[k],x,ws,ms,g,hs,ps,lks,hds,O,rfl,hv.same (s1.trans S2),T,PO,hin,Mm,zb,S2 _ _ hpm,lws,λu H3 tu s3=>?_⟩
   have s03:=(s1.trans S2).trans s3
   have em:zk hs lks hds (w.drop k)=zao hs lks hds w[k] (x::ws) ms:=by rw[ed,zk,hms]
   cases e:zao hs lks hds w[k] (x::ws) ms with
   |none=>
    rw[e] at tu em
    cases(show u= .non from tu)
    refine⟨_,rfl,rfl,_,rfl,zc6 rfl (q _ _ ?_ s03)⟩
    rw[zcy hkl em];rfl
   |some t=>
    rw[e] at tu em
    obtain⟨p,rfl,hp⟩:=tu
    refine⟨_,rfl,rfl,_,rfl,zbC rfl ⟨⟨p,t,_,rfl,hp,?_⟩,s03⟩⟩
    rw[show w.length -1 -(i+1)=k by omega];exact em
  ·rintro σ' H1 ⟨⟨pm,ms,o3,rfl,hpm,hms⟩,s1⟩
   rw[Nat.sub_self,List.drop_zero] at hms
   refine⟨_,rfl,q _ _ ?_ s1⟩
   rw[hms]
   exact⟨pm,rfl,hpm⟩
end
section
variable{P:Program}{w:World}{K:PySem.W.Frag}{mg:Str->Option Value}{base:Heap}
theorem zqf{k:Nat}{A:Around}(r:Room k A):A.units+70<cLine:=by have:=r.un;omega
theorem zj3{a b c:V}:atI [a,b,c] (-1)=some c:=rfl
def zkD:Sp:=λvs H Q _=>∃(v:V) (x:Str) (g:Str) (hs:List Str) (ps:List (Str×Str)) (lks hds:List D),vs=[v, .str x]/\Rep H v (zaB g hs ps lks hds)/\TownOk g hs ps lks hds/\∀(l:Addr) (ts:List Str) (H':Hp),H l=none->H' l=some (.lst (ts.map V.str))->ts.Perm (zef ps x)->sortedS ts=true->Same H H'->Q (.ref l) H'
theorem zmJ(Y:Ev K mg):FnOk P w K mg base CX0 1 Y.a_tied Y.d_tied zeS zkD:=by
 refine Y.tied.fn.okQ c_tied (λvs H Q E h=>?_) (λcdv A outer s H vs Q E hr h=>?_)
 ·obtain ⟨v,x,g,hs,ps,lks,hds,rfl,_⟩:=h;rfl
 ·obtain ⟨v,x,g,hs,ps,lks,hds,rfl,hv,T,q⟩:=h
  obtain⟨p,pr,pt,pl,pa,vt,vl,va,rfl,hp,hpr,hpt,rt,hpl,rl,hpa,ra⟩:=zbv hv
  have TP:=T.lp
  refine⟨_,(zg (zB 2 c_tied.nd (zT ix_tup (qv 0) zf))
   (zm (zx (zz zdH Y.sorted zce (za (zJ zoL (zaT (src:=[none,none,some 1]) o_tied_1 rfl rfl (zbY (qv 2)) (λ_ _ _ _ _=>(zh5 (K:=K) 2 rfl rfl (zH (zt 0 o_tied_1.nd) (zH (zt 1 o_tied_1.nd) zbK)))) (λ_ _ _ _ _=>(zhr (zI zak (qv 1) (qc 2)))) (λ_ _ _ _ _=>(qv 0))) (zaT (src:=[none,none,some 1]) o_tied_2 rfl rfl (zbY (qv 2)) (λ_ _ _ _ _=>(zh5 (K:=K) 2 rfl rfl (zH (zt 0 o_tied_2.nd) (zH (zt 1 o_tied_2.nd) zbK)))) (λ_ _ _ _ _=>(zhr (zI zak (qv 0) (qc 2)))) (λ_ _ _ _ _=>(qv 1)))) zc))))),?_⟩
  refine⟨_,rfl,p,_,2,_,rfl,rfl, .inl (.inl hp),zU (j:=2) rfl,?_⟩
  refine⟨_,rfl,pt,rfl,⟨_, .inl (.inl hpt)⟩,?_⟩
  refine zgM (ps:=ps) (sel:=λp=>decide (p.2=x)) (f:=(·.1)) (λσ'=>∃o1 o2,σ'=[o1,o2,some (.str x)]) (zaU (K:=K)) (λH' s'=> .inl (.inl (s' _ _ hpt))) rt (by omega) ⟨_,_,rfl⟩ ?_ λl1 H1 s1 hl1 e1=>?_
  ·rintro q p σ' H1 A B ⟨o1,o2,rfl⟩ s1 hq hp1 k
   refine⟨q,_,rfl, .inl (.inl hq),rfl,_,_,rfl,_,_,rfl,rfl,_,rfl,_,rfl,rfl,_,rfl,?_⟩
   have k:=k [some (.str p.1),some (.str p.2),some (.str x)] ⟨_,_,rfl⟩
   rw[zch]
   cases e:decide (p.2=x)with
   |false=>rw[e] at k;exact k
   |true=>rw[e] at k;exact⟨_,rfl,k⟩
  refine⟨_,rfl,pt,rfl,⟨_, .inl (.inl (s1 _ _ hpt))⟩,?_⟩
  refine zgM (ps:=ps) (sel:=λp=>decide (p.1=x)) (f:=(·.2)) (λσ'=>∃o1 o2,σ'=[o1,o2,some (.str x)]) (zaU (K:=K)) (λH' s'=> .inl (.inl (s' _ _ (s1 _ _ hpt)))) (rt.mono (.of s1)) (by omega) ⟨_,_,rfl⟩ ?_ λl2 H2 s2 hl2 e2=>?_
  ·rintro q p σ' H1 A B ⟨o1,o2,rfl⟩ s1 hq hp1 k
   refine⟨q,_,rfl, .inl (.inl hq),rfl,_,_,rfl,_,_,rfl,rfl,_,rfl,_,rfl,rfl,_,rfl,?_⟩
   have k:=k [some (.str p.1),some (.str p.2),some (.str x)] ⟨_,_,rfl⟩
   rw[zch]
   cases e:decide (p.1=x)with
   |false=>rw[e] at k;exact k
   |true=>rw[e] at k;exact⟨_,rfl,k⟩
  have nl:=zki T x
  have nl':((ps.filter λp=>decide (p.2=x)).map (·.1)).length+((ps.filter λp=>decide (p.1=x)).map (·.2)).length<=10:=by rw[←List.length_append];exact nl
  refine⟨l1,l2,_,_,rfl,rfl,s2 _ _ e1,e2,Nat.le_of_lt (zn (by simp only[List.length_map] at nl'⊢;omega)),λl3 hl3=>?_⟩
  rw[←List.map_append]
  have S3:=Same.new (o:= .lst ((zef ps x).map V.str)) hl3
  refine⟨l3,zef ps x,rfl, .inl (SqL.of zb),by omega,λts l4 hp4 hs4 hl4=>q l4 ts _ ?_ zb hp4 hs4 (((s1.trans s2).trans S3).trans (Same.new hl4))⟩
  exact zaC ((s1.trans s2).trans S3) hl4
theorem zc8(Y:Ev K mg):FnOk P w K mg base CX0 6 Y.a_liking_key Y.d_liking_key zaF zlj:=by
 have G_worth:FnOk P w K mg base CX0 5 Y.a_worth Y.d_worth zcr zeo:=zeE Y
 refine Y.liking_key.fn.okQ zgF (λvs H Q E h=>?_) (λcdv A outer s H vs Q E hr h=>?_)
 ·obtain ⟨v,pw,pm,x,ws,ms,g,hs,ps,lks,hds,j,rs,i,rfl,_⟩:=h;rfl
 ·obtain ⟨v,pw,pm,x,ws,ms,g,hs,ps,lks,hds,j,rs,i,rfl,hv,T,hj,hlj,hpw,hpm,nw,nm,lw,lm,hi,q⟩:=h
  refine⟨_,(zm (zx (zD (za (zju zdW (zj G_worth (hr.mono (by decide)) Y.worth.mg Y.worth.kp Y.worth.b .nil zo (za (qv 0) (za (qv 1) (za (qv 2) zc))))) (za (zz z8 Y.len zbs (za (qv 1) zc)) (za (qv 1) zc)))))),?_⟩
  refine⟨_,rfl,_,rfl,_,rfl,v,pw,pm,x,ws,ms,g,hs,ps,lks,hds,j,rs,rfl,hv,T,hj,hlj,hpw,hpm,nw,nm,lw,lm,λu H1 ru s1=>?_⟩
  rw[hi] at ru
  cases ru with|int _=>
  refine⟨_,rfl,_,rfl, .inl ⟨pw,_,rfl, .inr (.inl (.inl (s1 _ _ hpw))),_,rfl,few rfl,λpk hpk=>?_⟩⟩
  have S:=Same.new (o:= .tup [V.int (-i), .int (((x::ws).map V.str).length:Int), .ref pw]) hpk
  refine q _ _ ⟨pk,pw,rfl,?_,S _ _ (s1 _ _ hpw),λy hy=>zP (nw y hy)⟩ (s1.trans S)
  rw[zb,List.length_map]
def zb0(H:Hp)(b:Addr)(w:List Str):Prop:=H b=some (.tup (w.map V.str))
def zke(H:Hp)(b:Addr)(e:WM):Prop:=∃pw pm,H b=some (.tup [.ref pw, .ref pm])/\H pw=some (.tup (e.1.map V.str))/\H pm=some (.tup (e.2.map V.str))
structure EOk(x:Str)(rs:List D)(e:WM):Prop where
 hd:∃ws,e.1=x::ws
 nw:∀y∈e.1,zh y=true
 nm:∀y∈e.2,zh y=true
 lw:e.1.length<=80
 lm:e.2.length<=100
 wt:zw e.1 e.2 rs= .int (wI rs e)
theorem AtG.mono{α:Type}{Oa:Hp->Addr->α->Prop}{H H':Hp}{vs:List V}{ps:List α}(h:AtG Oa H vs ps)(m:∀b p,Oa H b p->Oa H' b p):AtG Oa H' vs ps:=
 ⟨h.1,λi v p e1 e2=>let ⟨b,e,o⟩:=h.2 i v p e1 e2;⟨b,e,m b p o⟩⟩
theorem AtG.snoc{α:Type}{Oa:Hp->Addr->α->Prop}{H:Hp}{vs:List V}{ps:List α}{b:Addr}{p:α}(h:AtG Oa H vs ps)(o:Oa H b p):AtG Oa H (vs ++ [.ref b]) (ps ++ [p]):=by
 refine⟨by rw[List.length_append,List.length_append,h.1];rfl,λi v q e1 e2=>?_⟩
 rcases Nat.lt_or_ge i vs.length with z|z
 ·rw[List.getElem?_append_left z] at e1
  rw[List.getElem?_append_left (by rw[←h.1];exact z)] at e2
  exact h.2 i v q e1 e2
 ·rw[List.getElem?_append_right z] at e1
  rw[List.getElem?_append_right (by rw[←h.1];exact z),←h.1] at e2
  cases hk:i -vs.length with
  |zero=>rw[hk] at e1 e2;cases e1;cases e2;exact⟨b,rfl,o⟩
  |succ n=>rw[hk] at e1;cases e1
theorem KeyO.same{H H':Hp}{b:Addr}{k:Ky}(h:KeyO H b k)(s:Same H H'):KeyO H' b k:=let⟨p,e,f,o⟩:=h;⟨p,s _ _ e,s _ _ f,o⟩
def znQ:Sp:=λvs H Q _=>∃(v:V) (l:Addr) (us:List V) (es:List WM) (x:Str) (g:Str) (hs:List Str) (ps:List (Str×Str)) (lks hds:List D) (j:Nat) (rs:List D),vs=[v, .ref l]/\Rep H v (zaB g hs ps lks hds)/\TownOk g hs ps lks hds/\hs[j]?=some x/\lks[j]?=some (.tup rs)/\H l=some (.lst us)/\AtG zke H us es/\es.length<64/\(es.map (·.1)).Nodup/\(∀e∈es,EOk x rs e)/\
 ∀(l':Addr) (us':List V) (ks:List Ky) (H':Hp),ks.Perm (es.map (kE rs))->ks.Pairwise (λa b=>ltK a b=true)->H' l'=some (.lst us')->AtG zb0 H' us' (ks.map (·.2.2))->H l'=none->Same H H'->Q (.ref l') H'
theorem zc4(Y:Ev K mg):FnOk P w K mg base CX0 7 Y.a_most_liked_first Y.d_most_liked_first z7 znQ:=by
 have G_liking_key:FnOk P w K mg base CX0 6 Y.a_liking_key Y.d_liking_key zaF zlj:=zc8 Y
 refine Y.most_liked_first.fn.okQ c_most_liked_first (λvs H Q E h=>?_) (λcdv A outer s H vs Q E hr h=>?_)
 ·obtain ⟨v,l,us,es,x,g,hs,ps,lks,hds,j,rs,rfl,_⟩:=h;rfl
 ·obtain ⟨v,l,us,es,x,g,hs,ps,lks,hds,j,rs,rfl,hv,T,hj,hlj,hl,at1,h64,nde,eok,q⟩:=h
  have lu:us.length=es.length:=at1.1
  refine⟨_,(zg (zB 2 c_most_liked_first.nd (zz (zfe (zqf hr)) Y.sorted zce (za (zaT (src:=[none,none,some 0]) o_most_liked_first_1 rfl rfl (zcn (qv 1)) (λ_ _ _ _ _=>(zh5 (K:=K) 2 rfl rfl (zH (zt 0 o_most_liked_first_1.nd) (zH (zt 1 o_most_liked_first_1.nd) zbK)))) (λ_ _ _ _ _=>zbW) (λ_ _ _ _ _=>(zj G_liking_key (hr.mono (by decide)) Y.liking_key.mg Y.liking_key.kp Y.liking_key.b .nil zo (za (qc 2) (za (qv 0) (za (qv 1) zc)))))) zc)))
   (zm (zx (zaT (src:=[none]) o_most_liked_first_2 rfl rfl (zcn (qv 2)) (λ_ _ _ _ _=>(zt 0 o_most_liked_first_2.nd)) (λ_ _ _ _ _=>zbW) (λ_ _ _ _ _=>(zT (zmc (K:=K) rfl) (qv 0) (zju zdW zf))))))),?_⟩
  refine⟨_,rfl,l,rfl,⟨_,SqL.of hl⟩,?_⟩
  refine zba (zcT (K:=K) (xs:=us)) (λl' i ys σ' H'=>(∃o1 o2,σ'=[o1,o2,some v])/\AtG KeyO H' ys ((es.take i).map (kE rs))/\Same H H') ?_ (λl' i ys σ' H' hl' z=>SqL.of (z.2.2 _ _ hl)) ?_ ?_
  ·exact λl' hl'=>⟨⟨_,_,rfl⟩,⟨rfl,λi v p e1 _=>by cases e1⟩,Same.new hl'⟩
  ·rintro l' i y0 ys σ' H1 hl' hi hy ⟨⟨o1,o2,rfl⟩,a1,s1⟩ hl1
   have hi':i<es.length:=by omega
   obtain⟨b,rfl,pw,pm,hb,hpw,hpm⟩:=at1.2 i y0 es[i] hy (List.getElem?_eq_getElem hi')
   have ee:=eok es[i] (List.getElem_mem hi')
   have tk:(es.take (i+1)).map (kE rs)=(es.take i).map (kE rs)++ [kE rs es[i]]:=by rw[List.take_add_one,List.getElem?_eq_getElem hi',List.map_append];rfl
   rw[tk]
   have ly:ys.length=i:=by have:=a1.1;rw[List.length_map,List.length_take] at this;omega
   generalize es[i]=e at *
   obtain⟨ew,em⟩:=e
   obtain⟨ws,rfl⟩:=ee.hd
   refine⟨b,_,rfl, .inl (.inl (s1 _ _ hb)),rfl,_,_,rfl,_,_,rfl,rfl,?_⟩
   refine⟨_,rfl,_,rfl,_,rfl,v,pw,pm,x,ws,em,g,hs,ps,lks,hds,j,rs,wI rs (x::ws,em),rfl,hv.same s1,T,hj,hlj,s1 _ _ hpw,s1 _ _ hpm,ee.nw,ee.nm,by have:=ee.lw;simp only[List.length_cons] at this;omega,ee.lm,ee.wt,λu H2 ku s2=>?_⟩
   obtain⟨kb,kp,rfl,k1,k2,k3⟩:=ku
   have hl2:=s2 _ _ hl1
   refine⟨hl2,zn (by omega),⟨_,_,rfl⟩,?_,λc o e=>by rw[ze (zi e hl')];exact s2 _ _ (s1 c o e)⟩
   have up:∀c k,KeyO H2 c k->KeyO (upd H2 l' (.lst (ys ++ [.ref kb]))) c k:=λc k ⟨p,e,f,o⟩=>⟨p,by rw[ze (zaN e hl2 (by intro z;cases z))];exact e,by rw[ze (zaN f hl2 (by intro z;cases z))];exact f,o⟩
   exact AtG.snoc (AtG.mono a1 λc k h=>up c k (KeyO.same h s2)) (up kb _ ⟨kp,k1,k2,k3⟩)
  rintro l1 zs σ' H1 hl1' ⟨⟨o1,o2,rfl⟩,a1,s1⟩ hl1
  rw[lu,List.take_length] at a1
  refine⟨l1,zs,es.map (kE rs),rfl, .inl (SqL.of hl1),a1,by rw[List.length_map];exact h64,λks vs' l2 hperm hpw' a2 hl2=>?_⟩
  have ndk:(es.map (kE rs)).Nodup:=by
   refine List.pairwise_map.mpr ((List.pairwise_map.mp nde).imp λh z=>h ?_)
   exact congrArg (λk:Ky=>k.2.2) z
  have pw2:=hpw' ndk
  have S2:=Same.new (o:= .lst vs') hl2
  have s12:=s1.trans S2
  refine⟨_,rfl,?_⟩
  have lk:vs'.length=ks.length:=a2.1
  refine⟨l2,rfl,⟨_,SqL.of zb⟩,?_⟩
  refine zba (zcT (K:=K) (xs:=vs')) (λl' i ys σ' H'=>(∃o1,σ'=[o1])/\AtG zb0 H' ys ((ks.take i).map (·.2.2))/\Same (upd H1 l2 (.lst vs')) H') ?_ (λl' i ys σ' H' hl' z=>SqL.of (z.2.2 _ _ zb)) ?_ ?_
  ·exact λl' hl'=>⟨⟨_,rfl⟩,⟨rfl,λi v p e1 _=>by cases e1⟩,Same.new hl'⟩
  ·rintro l' i y0 ys σ' H3 hl' hi hy ⟨⟨o1,rfl⟩,a3,s3⟩ hl3
   have hi':i<ks.length:=by omega
   obtain⟨b,rfl,p,hb,hp,_⟩:=a2.2 i y0 ks[i] hy (List.getElem?_eq_getElem hi')
   have tk:(ks.take (i+1)).map (λk:Ky=>k.2.2)=(ks.take i).map (λk:Ky=>k.2.2)++ [ks[i].2.2]:=by rw[List.take_add_one,List.getElem?_eq_getElem hi',List.map_append];rfl
   rw[tk]
   have ly:ys.length=i:=by have:=a3.1;rw[List.length_map,List.length_take] at this;omega
   have lks64:ks.length<64:=by rw[hperm.length_eq,List.length_map];exact h64
   have hb3:=s3 _ _ (S2 _ _ hb)
   have hp3:=s3 _ _ (S2 _ _ hp)
   refine⟨_,rfl,_,rfl,b,_,-1,_,rfl,rfl, .inl (.inl hb3),zj3,?_⟩
   refine⟨hl3,zn (by omega),⟨_,rfl⟩,?_,λc o e=>by rw[ze (zi e hl')];exact s3 c o e⟩
   have up:∀c (w:List Str),H3 c=some (.tup (w.map V.str))->upd H3 l' (.lst (ys ++ [.ref p])) c=some (.tup (w.map V.str)):=λc w e=>by rw[ze (zaN e hl3 (by intro z;cases z))];exact e
   exact AtG.snoc (AtG.mono a3 λc w e=>up c w e) (up p _ hp3)
  rintro l3 zs3 σ' H3 hl3' ⟨⟨o3,rfl⟩,a3,s3⟩ hl3
  rw[lk,List.take_length] at a3
  exact q l3 zs3 ks H3 hperm pw2 hl3 a3 (zaC s12 hl3') (s12.trans s3)
theorem zff(Y:Ev K mg):FnOk P w K mg base CX0 7 Y.a_likes_more Y.d_likes_more zbj ziz:=by
 have G_liking_key:FnOk P w K mg base CX0 6 Y.a_liking_key Y.d_liking_key zaF zlj:=zc8 Y
 refine Y.likes_more.fn.okQ zgt (λvs H Q E h=>?_) (λcdv A outer s H vs Q E hr h=>?_)
 ·obtain ⟨v,u1,u2,x,ws,ms,ws2,ms2,g,hs,ps,lks,hds,j,rs,a,b,rfl,_⟩:=h;rfl
 ·obtain ⟨v,u1,u2,x,ws,ms,ws2,ms2,g,hs,ps,lks,hds,j,rs,a,b,rfl,hv,T,hj,hlj,r1,r2,nw,nm,lw,lm,nw2,nm2,lw2,lm2,ha,hb,q⟩:=h
  obtain⟨p1,pw,pm,rfl,hp1,hpw,hpm⟩:=zjc r1
  obtain⟨p2,pw2,pm2,rfl,hp2,hpw2,hpm2⟩:=zjc r2
  refine⟨_,(zm (zx (zb5 (zov (zei hr)) (zj G_liking_key (hr.mono (by decide)) Y.liking_key.mg Y.liking_key.kp Y.liking_key.b .nil zo (za (qv 0) (za (zT ix_tup (qv 1) zf) (za (zT ix_tup (qv 1) zf) zc)))) (zj G_liking_key (hr.mono (by decide)) Y.liking_key.mg Y.liking_key.kp Y.liking_key.b .nil zo (za (qv 0) (za (zT ix_tup (qv 2) zf) (za (zT ix_tup (qv 2) zf) zc))))))),?_⟩
  refine⟨_,rfl,_,rfl,p1,_,0,_,rfl,rfl, .inl (.inl hp1),at0,_,rfl,p1,_,1,_,rfl,rfl, .inl (.inl hp1),at1,v,pw,pm,x,ws,ms,g,hs,ps,lks,hds,j,rs,a,rfl,hv,T,hj,hlj,hpw,hpm,nw,nm,lw,lm,ha,λk1 H1 hk1 s1=>?_⟩
  refine⟨_,rfl,_,rfl,p2,_,0,_,rfl,rfl, .inl (.inl (s1 _ _ hp2)),at0,_,rfl,p2,_,1,_,rfl,rfl, .inl (.inl (s1 _ _ hp2)),at1,v,pw2,pm2,x,ws2,ms2,g,hs,ps,lks,hds,j,rs,b,rfl,hv.same s1,T,hj,hlj,s1 _ _ hpw2,s1 _ _ hpm2,nw2,nm2,lw2,lm2,hb,λk2 H2 hk2 s2=>?_⟩
  exact⟨_,_,RW.KeyAt.same hk1 s2,hk2,q H2 (s1.trans s2)⟩
end
section
variable{P:Program}{w:World}{K:PySem.W.Frag}{mg:Str->Option Value}{base:Heap}
def zbp(w:List Str):List Key:=w.map Sum.inr
theorem zgE{w:List Str}:(zbp w).map kV=w.map V.str:=by unfold zbp;rw[List.map_map];rfl
theorem zeF:∀{a b:List Str},zbp a=zbp b->a=b
 |[],[],_=>rfl
 |[],_::_,h=>by cases h
 |_::_,[],h=>by cases h
 |x::xs,y::ys,h=>by
  have h:(Sum.inr x::zbp xs:List Key)=Sum.inr y::zbp ys:=h
  injection h with h1 h2
  rw[Sum.inr.inj h1,zeF h2]
theorem zmS{kvs:List (List Key×V)}{i:Nat}{k:List Key}{v:V}(nd:(kvs.map (·.1)).Nodup)(e:kvs[i]?=some (k,v)):zaI kvs k=some v:=by
 induction kvs generalizing i with
 |nil=>cases e
 |cons p kvs ih=>
  rw[List.map_cons,List.nodup_cons] at nd
  cases i with
  |zero=>cases e;exact zdv rfl
  |succ i=>
   rw[List.getElem?_cons_succ] at e
   rw[zcI λz=>nd.1 (by rw[z];exact List.mem_map.mpr ⟨_,List.mem_of_getElem? e,rfl⟩)]
   exact ih nd.2 e
structure LMk(M:List Str->Option (List Str))(H:Hp)(kvs:List (List Key×V))(L:List (List Str)):Prop where
 len:kvs.length=L.length
 at_:∀(i:Nat) (kv:List Key×V) (w:List Str),kvs[i]?=some kv->L[i]?=some w->kv.1=zbp w/\∃p m,kv.2= .ref p/\H p=some (.tup (m.map V.str))/\M w=some m
section
variable{M:List Str->Option (List Str)}{H H':Hp}{kvs:List (List Key×V)}{L:List (List Str)}
theorem LMk.keys(h:LMk M H kvs L):kvs.map (·.1)=L.map zbp:=by
 apply List.ext_getElem?
 intro i
 rw[List.getElem?_map,List.getElem?_map]
 rcases Nat.lt_or_ge i kvs.length with z|z
 ·have z':i<L.length:=by rw[←h.len];exact z
  rw[List.getElem?_eq_getElem z,List.getElem?_eq_getElem z']
  exact congrArg some (h.at_ i _ _ (List.getElem?_eq_getElem z) (List.getElem?_eq_getElem z')).1
 ·rw[List.getElem?_eq_none z,List.getElem?_eq_none (by rw[←h.len];exact z)];rfl
theorem LMk.nodup(h:LMk M H kvs L)(nd:L.Nodup):(kvs.map (·.1)).Nodup:=by
 rw[h.keys]
 exact List.pairwise_map.mpr (nd.imp λh z=>h (zeF z))
theorem LMk.get(h:LMk M H kvs L)(nd:L.Nodup){w:List Str}(hw:w∈L):∃p m,zaI kvs (zbp w)=some (.ref p)/\H p=some (.tup (m.map V.str))/\M w=some m:=by
 obtain⟨i,hi,e⟩:=List.getElem_of_mem hw
 have hk:i<kvs.length:=by rw[h.len];exact hi
 obtain⟨e1,p,m,e2,e3,e4⟩:=h.at_ i kvs[i] w (List.getElem?_eq_getElem hk) (by rw[List.getElem?_eq_getElem hi,e])
 exact⟨p,m,zmS (h.nodup nd) (by rw[List.getElem?_eq_getElem hk,←e1,←e2]),e3,e4⟩
theorem LMk.none(h:LMk M H kvs L){w:List Str}(hw:w∉L):zaI kvs (zbp w)=none:=by
 cases e:zaI kvs (zbp w)with
 |none=>rfl
 |some v=>
  exfalso
  unfold zaI at e
  cases e2:kvs.find? λkv=>decide (kv.1=zbp w)with
  |none=>rw[e2] at e;cases e
  |some kv=>
   have h1:=List.find?_some e2
   have h2:=List.mem_of_find?_eq_some e2
   have:zbp w∈kvs.map (·.1):=List.mem_map.mpr ⟨kv,h2,of_decide_eq_true h1⟩
   rw[h.keys] at this
   obtain⟨w',hw',e3⟩:=List.mem_map.mp this
   exact hw (zeF e3▸hw')
theorem LMk.mono(h:LMk M H kvs L)(s:∀a xs,H a=some (.tup xs)->H' a=some (.tup xs)):LMk M H' kvs L:=
 ⟨h.len,λi kv w e1 e2=>let ⟨a,p,m,b,c,d⟩:=h.at_ i kv w e1 e2;⟨a,p,m,b,s _ _ c,d⟩⟩
theorem LMk.put(h:LMk M H kvs L){w m:List Str}{p:Addr}(hw:w∉L)(hp:H p=some (.tup (m.map V.str)))(hM:M w=some m):LMk M H (zar kvs (zbp w) (.ref p)) (L ++ [w]):=by
 rw[zhp _ (h.none hw)]
 refine⟨by rw[List.length_append,List.length_append,h.len];rfl,λi kv w' e1 e2=>?_⟩
 rcases Nat.lt_or_ge i kvs.length with z|z
 ·rw[List.getElem?_append_left z] at e1
  rw[List.getElem?_append_left (by rw[←h.len];exact z)] at e2
  exact h.at_ i kv w' e1 e2
 ·rw[List.getElem?_append_right z] at e1
  rw[List.getElem?_append_right (by rw[←h.len];exact z),←h.len] at e2
  cases hk:i -kvs.length with
  |zero=>rw[hk] at e1 e2;cases e1;cases e2;exact⟨rfl,p,m,rfl,hp,hM⟩
  |succ n=>rw[hk] at e1;cases e1
end
theorem zhJ{hs:List Str}{lks hds:List D}{y a:Str}{q:List Str}(h:zk hs lks hds (y::a::q)≠none):zk hs lks hds (a::q)≠none:=λe=>h (by rw[zk,e])
theorem zlg{ps:List (Str×Str)}{x y:Str}(hp:∀p∈ps,ltS p.1 p.2=true):y∈zef ps x↔mmS y x∈ps:=by
 unfold zef
 rw[List.mem_append,List.mem_map,List.mem_map]
 constructor
 ·rintro (⟨p,h,rfl⟩|⟨p,h,rfl⟩)
  ·obtain ⟨h1,h2⟩:=List.mem_filter.mp h
   have:=of_decide_eq_true h2
   subst this
   rw[zfT (hp p h1)];exact h1
  ·obtain ⟨h1,h2⟩:=List.mem_filter.mp h
   have:=of_decide_eq_true h2
   subst this
   rw[mmS_MM.sym,zfT (hp p h1)];exact h1
 ·intro h
  rcases mmS_MM.two y x with e|e
  ·rw[e] at h
   exact .inl ⟨_,List.mem_filter.mpr ⟨h,decide_eq_true rfl⟩,rfl⟩
  ·rw[e] at h
   exact .inr ⟨_,List.mem_filter.mpr ⟨h,decide_eq_true rfl⟩,rfl⟩
theorem zgc{g:Str}{hs:List Str}{ps:List (Str×Str)}(hg:g∈hs)(hp:∀p∈ps,p.1∈hs/\p.2∈hs)(sp:zbT ps){L:List (List Str)}(nd:L.Nodup)(sw:∀w∈L,SW g ps w):L.length<=hs.length*16/\∀x,(L.filter λw=>decide (w.head?=some x)).length<=16:=by
 obtain⟨xs,k,nx,sp⟩:=sp
 have h1:∀x,(L.filter λw=>decide (w.head?=some x)).length<=16:=λx=>zoI nx sp (a:=x) (g:=g) (nd.sublist List.filter_sublist) λw hw=>by
  obtain⟨h1,h2⟩:=List.mem_filter.mp hw
  exact⟨sw w h1,of_decide_eq_true h2⟩
 refine⟨zi4 nd (λw hw=>?_) λx _=>h1 x,h1⟩
 obtain⟨x,r,rfl⟩:=(sw w hw).ne
 exact⟨x,SW.mem hg hp (sw _ hw) x List.mem_cons_self,rfl⟩
end
section
variable{P:Program}{w:World}{K:PySem.W.Frag}{mg:Str->Option Value}{base:Heap}
theorem zjx{hs w G:List Str}(h:WOk hs w)(gnd:G.Nodup)(gh:∀y∈G,y∈hs)(gw:∀y∈G,y∉w):zeV hs.length (G.map (·::w))+1<=Fw (hs.length -w.length):=by
 have hl:G.length+w.length<=hs.length:=by
  have hn:(G ++w).Nodup:=List.nodup_append.mpr ⟨gnd,h.nd,λa ha b hb e=>gw a ha (e▸hb)⟩
  have:=zV (m:=hs) hn λx hx=>by
   rcases List.mem_append.mp hx with hx|hx
   ·exact gh x hx
   ·exact h.mem x hx
  rwa[List.length_append] at this
 have e:zeV hs.length (G.map (·::w))=G.length*Fw (hs.length -(w.length+1)):=by
  rw[zhE (L:=w.length+1) λc hc=>by obtain⟨y,_,rfl⟩:=List.mem_map.mp hc;rfl,List.length_map]
 rw[e]
 cases hk:hs.length -w.length with
 |zero=>
  have:G.length=0:=by omega
  rw[this,Nat.zero_mul];exact Nat.le_refl 1
 |succ k=>
  have e2:hs.length -(w.length+1)=k:=by omega
  rw[e2]
  show _<=1+(k+1)*Fw k
  have:G.length*Fw k<=(k+1)*Fw k:=Nat.mul_le_mul_right _ (by omega)
  omega
def zle:Sp:=λvs H Q _=>∃(v:V) (g:Str) (hs:List Str) (ps:List (Str×Str)) (lks hds:List D) (O:List Str),vs=[v]/\Rep H v (zaB g hs ps lks hds)/\TownOk g hs ps lks hds/\Pool hs lks hds O/\zbT ps/\∀(d:Addr) (kvs:List (List Key×V)) (L:List (List Str)) (H':Hp),H' d=some (.dT kvs)->LMk (zk hs lks hds) H' kvs L->L.Nodup->(∀w,w∈L↔SW g ps w/\zk hs lks hds w≠none)->H d=none->Same H H'->Q (.ref d) H'
theorem zgg(Y:Ev K mg):FnOk P w K mg base CX0 7 Y.a_let_marks Y.d_let_marks zbw zle:=by
 have G_tied:FnOk P w K mg base CX0 1 Y.a_tied Y.d_tied zeS zkD:=zmJ Y
 have G_marks_ahead:FnOk P w K mg base CX0 6 Y.a_marks_ahead Y.d_marks_ahead zan zgj:=zcS Y
 refine Y.let_marks.fn.okQ c_let_marks (λvs H Q E h=>?_) (λcdv A outer s H vs Q E hr h=>?_)
 ·obtain ⟨v,g,hs,ps,lks,hds,O,rfl,_⟩:=h;rfl
 ·obtain ⟨v,g,hs,ps,lks,hds,O,rfl,hv,T,PO,sp,q⟩:=h
  obtain⟨p,pr,pt,pl,pa,vt,vl,va,rfl,hp,hpr,hpt,rt,hpl,rl,hpa,ra⟩:=zbv hv
  have T10:=T.ten
  have T1:=T.one
  have tin:∀p∈ps,p.1∈hs/\p.2∈hs:=λp hp=>⟨(T.ties p hp).1,(T.ties p hp).2.1⟩
  have tlt:∀p∈ps,ltS p.1 p.2=true:=λp hp=>(T.ties p hp).2.2
  refine⟨_,(zg (zB 1 c_let_marks.nd (zD (za (zT ix_tup (qv 0) zf) zc)))
   (zg (zB 2 c_let_marks.nd (zmV (hu1 hr) (qv 1) (zD zc)))
   (zg (zB 3 c_let_marks.nd (zbN (za (qv 1) zc)))
   (zg (zmM (zmk (qv 3)) (zg (zB 4 c_let_marks.nd (zpg PySem.F.plainAttrs_list PySem.F.slot_list_pop PySem.F.type_list_pop zoz (qv 3)))
   (zm (zbx PassesOwn.never rfl (zcn (zj G_tied (hr.mono (by decide)) Y.tied.mg Y.tied.kp Y.tied.b .nil zo (za (qv 0) (za (zT ix_tup (qv 4) zf) zc)))) (zt 5 c_let_marks.nd) (zg (zB 6 c_let_marks.nd (zpd (zI zdV (qv 5) (qv 4)) zcz (zj G_marks_ahead (hr.mono (by decide)) Y.marks_ahead.mg Y.marks_ahead.kp Y.marks_ahead.b .nil zo (za (qv 0) (za (qv 4) (za (zca (hu1 hr) (qv 2) (qv 4)) (za (qv 5) zc)))))))
   (zg (zas (zI zeC (qv 6) zcz) (zm zkT) zS)
   (zg (zas (zI zak (zz zjN Y.len zbs (za (qv 2) zc)) (zoB Y.m_MOST_LET Y.r_MOST_LET)) (zm zmr) zS)
   (zg (zhO (hu1 hr) (qv 2) (zJ zbt (zD (za (qv 5) zc)) (qv 4)) (qv 6))
   (zm (zdc (zgk PySem.F.plainAttrs_list PySem.F.slot_list_append PySem.F.type_list_append zaD (qv 3) (za (zJ zbt (zD (za (qv 5) zc)) (qv 4)) zc))))))))))))
   (zm (zx (qv 2))))))),?_⟩
  refine⟨_,rfl,p,_,0,_,rfl,rfl, .inl (.inl hp),at0,few rfl,λp1 hp1=>?_⟩
  intro d hd
  refine⟨_,rfl,few rfl,λp2 hp2=>?_⟩
  have S1:=Same.new (o:= .tup [V.str g]) hp1
  have nd1:p1≠d:=λz=>by rw[z,zb] at hd;cases hd
  have n2d:p2≠d:=λz=>by rw[z,zb] at hp2;cases hp2
  refine⟨by rw[ze (Ne.symm n2d),zb],p1,zbp [g], .ref p2,rfl,?_,?_⟩
  ·rw[zgE,ze (zi (o:= .tup [V.str g]) (by rw[ze nd1,zb]) hp2),ze nd1,zb];rfl
  have hdH:H d=none:=S1.free hd
  have S2:Same H (upd (upd (upd (upd H p1 (.tup [V.str g])) d (.dT [])) p2 (.tup [])) d (.dT [(zbp [g], .ref p2)])):=λc o e=>by
   rw[ze (zi e hdH)]
   exact Same.new hp2 _ _ (Same.new hd _ _ (S1 _ _ e))
  have e1:(upd (upd (upd (upd H p1 (.tup [V.str g])) d (.dT [])) p2 (.tup [])) d (.dT [(zbp [g], .ref p2)])) p1=some (.tup ([g].map V.str)):=by
   rw[ze nd1,ze (zi (o:= .tup [V.str g]) (by rw[ze nd1,zb]) hp2),ze nd1,zb];rfl
  have e2:(upd (upd (upd (upd H p1 (.tup [V.str g])) d (.dT [])) p2 (.tup [])) d (.dT [(zbp [g], .ref p2)])) p2=some (.tup (([]:List Str).map V.str)):=by
   rw[ze n2d,zb];rfl
  have e3:(upd (upd (upd (upd H p1 (.tup [V.str g])) d (.dT [])) p2 (.tup [])) d (.dT [(zbp [g], .ref p2)])) d=some (.dT [(zbp [g], .ref p2)]):=zb
  generalize (upd (upd (upd (upd H p1 (HO.tup [V.str g])) d (HO.dT [])) p2 (HO.tup [])) d (HO.dT [(zbp [g],V.ref p2)]))=H2 at *
  refine⟨_,rfl,few rfl,λf hf=>?_⟩
  have hfH:H f=none:=S2.free hf
  have ndf:d≠f:=zi e3 hf
  have S3:=Same.new (o:= .lst [V.ref p1]) hf
  have M1:zk hs lks hds [g]=some []:=rfl
  refine⟨λm σ' H'=>∃(L F:List (List Str)) (kvs:List (List Key×V)) (fs:List V) (o4 o5 o6:Option V),σ'=[some (.ref p),some (.ref p1),some (.ref d),some (.ref f),o4,o5,o6]/\H' d=some (.dT kvs)/\LMk (zk hs lks hds) H' kvs L/\H' f=some (.lst fs)/\AtG zb0 H' fs F/\Df g ps (zk hs lks hds) L F/\m=zeV hs.length F/\Same H H',⟨_,[[g]],[[g]],_,_,_,_,_,rfl,S3 _ _ e3,⟨rfl,λi kv w h1 h2=>?_⟩,zb,⟨rfl,λi v w h1 h2=>?_⟩,Df.start (by rw[M1];exact λz=>nomatch z),rfl,S2.trans S3⟩,?_⟩
  ·cases i with
   |zero=>cases h1;cases h2;exact⟨rfl,p2,[],rfl,S3 _ _ e2,rfl⟩
   |succ i=>cases h1
  ·cases i with
   |zero=>cases h1;cases h2;exact⟨p1,rfl,S3 _ _ e1⟩
   |succ i=>cases h1
  rintro m σ' H4 ⟨L,F,kvs,fs,o4,o5,o6,rfl,hd4,lm,hf4,af,df,rfl,s4⟩
  have lf:fs.length=F.length:=af.1
  refine⟨_,rfl,!fs.isEmpty, .inl ⟨fs,SqL.of hf4,rfl⟩,zbS (λhb=>?_) (λhb=>?_)⟩
  ·have hpos:0<F.length:=by
    cases fs with
    |nil=>simp at hb
    |cons a b=>rw[←lf];exact Nat.succ_pos _
   obtain⟨F',w,rfl⟩:∃F' w,F=F' ++ [w]:=⟨F.dropLast,F.getLast (List.ne_nil_of_length_pos hpos),(List.dropLast_concat_getLast _).symm⟩
   have lf':fs.length=F'.length+1:=by rw[lf,List.length_append];rfl
   obtain⟨b,eb,hb4⟩:∃b,fs[fs.length -1]?=some (.ref b)/\H4 b=some (.tup (w.map V.str)):=by
    have h1:fs.length -1<fs.length:=by omega
    obtain⟨b,e,o⟩:=af.2 (fs.length -1) fs[fs.length -1] w (List.getElem?_eq_getElem h1) (by rw[lf',Nat.add_sub_cancel,List.getElem?_append_right (Nat.le_refl _),Nat.sub_self];rfl)
    exact⟨b,by rw[List.getElem?_eq_getElem h1,e],o⟩
   have wL:w∈L:=df.fsub w (List.mem_append_right _ (List.mem_singleton.mpr rfl))
   obtain⟨sw,mw⟩:=df.sw w wL
   obtain⟨x,r,rfl⟩:=sw.ne
   have wmem:∀y∈x::r,y∈hs:=SW.mem T.goal tin sw
   have wok:WOk hs (x::r):=⟨Nat.le_add_left 1 _,sw.nd,wmem⟩
   have w10:=wok.len T10
   refine⟨_,λσ' H' h=>h,?_⟩
   refine⟨_,rfl, .inl ⟨rfl,_,SqL.of hf4⟩,f,fs, .ref b,rfl,rfl,hf4,eb,?_⟩
   have hbf:b≠f:=zaN hb4 hf4 (by intro z;cases z)
   have hb5:upd H4 f (.lst fs.dropLast) b=some (.tup ((x::r).map V.str)):=by rw[ze hbf];exact hb4
   have s5:Same H (upd H4 f (.lst fs.dropLast)):=λc o e=>by rw[ze (zi e hfH)];exact s4 c o e
   refine⟨_,rfl,_,rfl,b,_,0,_,rfl,rfl, .inl (.inl hb5),at0, .ref p,x,g,hs,ps,lks,hds,rfl,hv.same s5,T,λlt ts H6 hlt elt perm srt s6=>?_⟩
   refine⟨lt,rfl,⟨_,SqL.of elt⟩,?_⟩
   have hd6:H6 d=some (.dT kvs):=s6 _ _ (by rw[ze ndf];exact hd4)
   have hf6:H6 f=some (.lst fs.dropLast):=s6 _ _ zb
   have hb6:=s6 _ _ hb5
   have ltd:lt≠d:=λz=>by rw[z,ze ndf,hd4] at hlt;cases hlt
   have ltf:lt≠f:=λz=>by rw[z,zb] at hlt;cases hlt
   have bd:b≠d:=zaN hb6 hd6 (by intro z;cases z)
   have tsm:∀y,y∈ts↔mmS y x∈ps:=λy=>perm.mem_iff.trans (zlg tlt)
   have tsN:ts.Nodup:=perm.nodup_iff.mpr (ziD T x)
   have up4:∀c xs,H4 c=some (.tup xs)->H6 c=some (.tup xs):=λc xs e=>s6 _ _ (by rw[ze (zaN e hf4 (by intro z;cases z))];exact e)
   have af6:AtG zb0 H6 fs.dropLast F':=by
    refine⟨by rw[List.length_dropLast,lf',Nat.add_sub_cancel],λi v w' h1 h2=>?_⟩
    have hi:i<F'.length:=by
     rcases Nat.lt_or_ge i F'.length with z|z
     ·exact z
     ·rw[List.getElem?_eq_none z] at h2;cases h2
    rw[List.getElem?_dropLast,if_pos (by omega)] at h1
    obtain⟨c,e,o⟩:=af.2 i v w' h1 (by rw[List.getElem?_append_left hi];exact h2)
    exact⟨c,e,up4 _ _ o⟩
   refine za9 (zcT (K:=K) (xs:=ts.map V.str)) (λi σ' H'=>∃(L:List (List Str)) (G:List Str) (kvs:List (List Key×V)) (fs:List V) (o5 o6:Option V),σ'=[some (.ref p),some (.ref p1),some (.ref d),some (.ref f),some (.ref b),o5,o6]/\H' d=some (.dT kvs)/\LMk (zk hs lks hds) H' kvs L/\H' f=some (.lst fs)/\AtG zb0 H' fs (F' ++G.map (·::x::r))/\DfW g ps (zk hs lks hds) x r (ts.take i) L (F' ++G.map (·::x::r))/\G.Nodup/\(∀y∈G,y∈ts.take i/\y∉x::r)/\Same H H'/\H' lt=some (.lst (ts.map V.str))/\H' b=some (.tup ((x::r).map V.str))) ?_ (λi σ' H' ⟨_,_,_,_,_,_,_,_,_,_,_,_,_,_,_,h,_⟩=>SqL.of h) ?_ ?_
   ·exact ⟨L,[],kvs,fs.dropLast,_,_,rfl,hd6,lm.mono up4,hf6,by rw[List.map_nil,List.append_nil];exact af6,by rw[List.map_nil,List.append_nil,List.take_zero];exact df.pop,List.nodup_nil,λ_ z=>(nomatch z),s5.trans s6,elt,hb6⟩
   ·rintro i y0 σ' H7 hi hy ⟨L7,G,kvs7,fs7,o5',o6',rfl,hd7,lm7,hf7,af7,dw,gnd,gm,s7,elt7,hb7⟩
    rw[List.length_map] at hi
    rw[List.getElem?_map] at hy
    obtain⟨y,ey,rfl⟩:∃y,ts[i]?=some y/\y0= .str y:=by
     cases e:ts[i]? with
     |none=>rw[e] at hy;cases hy
     |some y=>rw[e] at hy;cases hy;exact⟨y,rfl,rfl⟩
    have hys:y∈ts:=List.mem_of_getElem? ey
    have tie:mmS y x∈ps:=(tsm y).mp hys
    have hyh:y∈hs:=by
     rcases mmS_MM.two y x with e|e
     ·have:=(tin _ tie).1;rw[e] at this;exact this
     ·have:=(tin _ tie).2;rw[e] at this;exact this
    have tk:ts.take (i+1)=ts.take i ++ [y]:=by rw[List.take_add_one,ey];rfl
    have ynew:y∉ts.take i:=λz=>by
     have:(ts.take i ++ [y]).Nodup:=by rw[←tk];exact tsN.sublist (List.take_sublist _ _)
     exact(List.nodup_append.mp this).2.2 y z y (List.mem_singleton.mpr rfl) rfl
    have skip:(y∈x::r\/zk hs lks hds (y::x::r)=none)->∀(o5 o6:Option V) (H':Hp),Same H7 H'->∃(L:List (List Str)) (G:List Str) (kvs:List (List Key×V)) (fs:List V) (o5' o6':Option V),[some (V.ref p),some (.ref p1),some (.ref d),some (.ref f),some (.ref b),o5,o6]=[some (.ref p),some (.ref p1),some (.ref d),some (.ref f),some (.ref b),o5',o6']/\H' d=some (.dT kvs)/\LMk (zk hs lks hds) H' kvs L/\H' f=some (.lst fs)/\AtG zb0 H' fs (F' ++G.map (·::x::r))/\DfW g ps (zk hs lks hds) x r (ts.take (i+1)) L (F' ++G.map (·::x::r))/\G.Nodup/\(∀y∈G,y∈ts.take (i+1)/\y∉x::r)/\Same H H'/\H' lt=some (.lst (ts.map V.str))/\H' b=some (.tup ((x::r).map V.str)):=λh o5 o6 H' s8=>
     ⟨L7,G,kvs7,fs7,_,_,rfl,s8 _ _ hd7,lm7.mono λa xs e=>s8 _ _ e,s8 _ _ hf7,AtG.mono af7 λc w e=>s8 _ _ e,by rw[tk];exact dw.skip h,gnd,λz hz=>⟨by rw[tk];exact List.mem_append_left _ (gm z hz).1,(gm z hz).2⟩,s7.trans s8,s8 _ _ elt7,s8 _ _ hb7⟩
    refine⟨_,rfl,_,rfl,b,_,rfl, .inr (.inl (.inl hb7)),rfl,zdN,_,rfl,?_⟩
    cases hin:inV (V.str y) ((x::r).map V.str)with
    |true=>
     have hyw:y∈x::r:=by
      rw[zeq,List.any_eq_true] at hin
      obtain⟨z,hz,e⟩:=hin
      exact of_decide_eq_true e▸hz
     exact zc6 rfl ⟨_,rfl,rfl,_,rfl,zc6 rfl (skip (.inl hyw) _ _ _ (Same.refl _))⟩
    |false=>
     have hnw:y∉x::r:=λz=>by
      rw[zeq,List.any_eq_false] at hin
      exact hin y z (decide_eq_true rfl)
     obtain⟨pm,ms,ev,hpm,eM⟩:=lm7.get dw.nd dw.me.1
     have MR:=zbA T PO wmem eM
     have eA:zk hs lks hds (y::x::r)=zao hs lks hds y (x::r) ms:=by rw[zk,eM]
     have dg:DGet H7 d (.ref b) (some (.ref pm)):=by
      have:=DGet.t (k:=zbp (x::r)) hd7 (by rw[zgE];exact hb7)
      rw[ev] at this;exact this
     refine zbC rfl ⟨_,rfl,_,rfl,_,rfl,_,rfl,d,_,rfl,dg,_,rfl, .ref p,b,pm,y,x,r,ms,g,hs,ps,lks,hds,O,rfl,hv.same s7,T,PO,λz hz=>?_,MR,hb7,hpm,by have:r.length+1<=10:=w10;omega,λu H8 hu s8=>?_⟩
     ·rcases List.mem_cons.mp hz with rfl|hz
      ·exact hyh
      ·exact wmem z hz
     rw[←eA] at hu
     cases eo:zk hs lks hds (y::x::r)with
     |none=>
      rw[eo] at hu
      have hu:u= .non:=hu
      subst hu
      exact⟨_,rfl,rfl,_,rfl,zc6 rfl (skip (.inr eo) _ _ _ s8)⟩
     |some t=>
      rw[eo] at hu
      obtain⟨pt',rfl,hpt'⟩:=hu
      have hd8:=s8 _ _ hd7
      refine⟨_,rfl,rfl,_,rfl,zbC rfl ?_⟩
      have fewL:=(zgc T.goal tin sp dw.nd λw hw=>(dw.sw w hw).1).1
      have lenk:kvs7.length<=160:=by rw[lm7.len];omega
      refine⟨_,rfl,d,kvs7,rfl, .inl hd8,rfl,_,rfl,zbS (λhc=>?_) (λ_=>?_)⟩
      ·exfalso
       simp at hc
       omega
      refine⟨_,rfl,_,rfl,_,rfl,few rfl,λp6 hp6=>⟨_,rfl,p6,b,_,_,rfl,rfl, .inl (.inl zb), .inl (.inl (Same.new hp6 _ _ (s8 _ _ hb7))),Nat.le_of_lt (zn (by rw[List.length_map];show 1+(r.length+1)<=_;have:r.length+1<=10:=w10;omega)),(λz=>nomatch z),(λ_ z=>nomatch z),λ_ _ p7 hp7=>?_⟩⟩
      have S9:=(Same.new (o:= .tup [V.str y]) hp6).trans (Same.new (o:= .tup ([V.str y]++(x::r).map V.str)) hp7)
      have e7:(upd (upd H8 p6 (.tup [V.str y])) p7 (.tup ([V.str y]++(x::r).map V.str))) p7=some (.tup ((y::x::r).map V.str)):=zb
      generalize (upd (upd H8 p6 (HO.tup [V.str y])) p7 (HO.tup ([V.str y]++(x::r).map V.str)))=H9 at *
      have s79:=s8.trans S9
      have hd9:=S9 _ _ hd8
      have hf9:=s79 _ _ hf7
      refine⟨d,_,rfl,DPut.t (k:=zbp (y::x::r)) hd9 (by rw[zgE];exact e7) (zn (by omega)),?_⟩
      have dH10:∀c o,c≠d->H9 c=some o->upd H9 d (.dT (zar kvs7 (zbp (y::x::r)) (.ref pt'))) c=some o:=λc o hc e=>by rw[ze hc];exact e
      have hd10:upd H9 d (.dT (zar kvs7 (zbp (y::x::r)) (.ref pt'))) d=some (.dT (zar kvs7 (zbp (y::x::r)) (.ref pt'))):=zb
      generalize (upd H9 d (HO.dT (zar kvs7 (zbp (y::x::r)) (V.ref pt'))))=H10 at *
      have hf10:=dH10 _ _ (Ne.symm ndf) hf9
      have hb10:=dH10 _ _ bd (s79 _ _ hb7)
      refine⟨_,rfl, .inl ⟨rfl,_,SqL.of hf10⟩,_,rfl,few rfl,λp8 hp8=>⟨_,rfl,p8,b,_,_,rfl,rfl, .inl (.inl zb), .inl (.inl (Same.new hp8 _ _ hb10)),Nat.le_of_lt (zn (by rw[List.length_map];show 1+(r.length+1)<=_;have:r.length+1<=10:=w10;omega)),(λz=>nomatch z),(λ_ z=>nomatch z),λ_ _ p9 hp9=>?_⟩⟩
      have S11:=(Same.new (o:= .tup [V.str y]) hp8).trans (Same.new (o:= .tup ([V.str y]++(x::r).map V.str)) hp9)
      have e9:(upd (upd H10 p8 (.tup [V.str y])) p9 (.tup ([V.str y]++(x::r).map V.str))) p9=some (.tup ((y::x::r).map V.str)):=zb
      generalize (upd (upd H10 p8 (HO.tup [V.str y])) p9 (HO.tup ([V.str y]++(x::r).map V.str)))=H11 at *
      have hf11:=S11 _ _ hf10
      have lfs:fs7.length<=170:=by
       have h1:fs7.length=(F' ++G.map (·::x::r)).length:=af7.1
       have h2:=zb8 dw.fnd dw.fsub
       omega
      refine⟨f,fs7, .ref p9,rfl,rfl,hf11,zn (by omega),?_⟩
      have fH:∀c o,c≠d->c≠f->H7 c=some o->upd H11 f (.lst (fs7 ++ [.ref p9])) c=some o:=λc o hc hc' e=>by
       rw[ze hc']
       exact S11 _ _ (dH10 _ _ hc (s79 _ _ e))
      have tup9:∀c xs,H9 c=some (.tup xs)->upd H11 f (.lst (fs7 ++ [.ref p9])) c=some (.tup xs):=λc xs e=>by
       rw[ze (zaN e hf9 (by intro z;cases z))]
       exact S11 _ _ (dH10 _ _ (zaN e hd9 (by intro z;cases z)) e)
      have ap:F' ++(G ++ [y]).map (·::x::r)=F' ++G.map (·::x::r)++ [y::x::r]:=by rw[List.map_append,List.append_assoc];rfl
      have hnL:y::x::r∉L7:=λz=>ynew (dw.kids y z)
      refine⟨L7 ++ [y::x::r],G ++ [y],_,_,_,_,rfl,by rw[ze ndf];exact S11 _ _ hd10,((lm7.mono λa xs e=>s79 _ _ e).put (m:=t) hnL (S9 _ _ hpt') eo).mono tup9,zb,?_,?_,?_,?_,?_,fH _ _ ltd ltf elt7,fH _ _ bd hbf hb7⟩
      ·rw[ap]
       exact AtG.snoc (AtG.mono af7 λc w e=>tup9 _ _ (s79 _ _ e)) (by show upd H11 f _ p9=_;rw[ze (zaN e9 hf11 (by intro z;cases z))];exact e9)
      ·rw[ap,tk]
       exact dw.add ynew hnw tie (by rw[eo];exact λz=>nomatch z)
      ·exact List.nodup_append.mpr ⟨gnd,by simp,λa ha b' hb' z=>ynew (by rw[←List.mem_singleton.mp hb',←z];exact(gm a ha).1)⟩
      ·intro z hz
       rw[tk]
       rcases List.mem_append.mp hz with hz|hz
       ·exact ⟨List.mem_append_left _ (gm z hz).1,(gm z hz).2⟩
       ·rw[List.mem_singleton.mp hz];exact⟨List.mem_append_right _ (List.mem_singleton.mpr rfl),hnw⟩
      ·intro c o e
       exact fH c o (zi e hdH) (zi e hfH) (s7 c o e)
   ·rintro σ' H7 ⟨L7,G,kvs7,fs7,o5',o6',rfl,hd7,lm7,hf7,af7,dw,gnd,gm,s7,_,_⟩
    rw[List.length_map,List.take_length] at dw
    have dn:=dw.done λy h=>(tsm y).mpr h
    refine⟨_,?_,L7,_,kvs7,fs7,_,_,_,rfl,hd7,lm7,hf7,af7,dn,rfl,s7⟩
    have c1:zeV hs.length (G.map (·::x::r))+1<=Fw (hs.length -(x::r).length):=zjx wok gnd (λy hy=>by
     have h1:=(tsm y).mp (List.mem_of_mem_take (gm y hy).1)
     rcases mmS_MM.two y x with e|e
     ·have:=(tin _ h1).1;rw[e] at this;exact this
     ·have:=(tin _ h1).2;rw[e] at this;exact this) λy hy=>(gm y hy).2
    rw[zg4,zg4]
    have c2:zeV hs.length [x::r]=Fw (hs.length -(x::r).length):=rfl
    omega
  ·have:F=[]:=by
    have:fs=[]:=by
     cases fs with
     |nil=>rfl
     |cons a b=>simp at hb
    rw[this] at lf
    exact List.length_eq_zero_iff.mp lf.symm
   subst this
   exact⟨_,rfl,q d kvs L H4 hd4 lm df.nd (df.all λy a q=>zhJ) hdH s4⟩
end
section
variable{P:Program}{w:World}{K:PySem.W.Frag}{mg:Str->Option Value}{base:Heap}
structure GL{α:Type}(Oa:Hp->Addr->α->Prop)(H H':Hp)(hs:List Str)(ls:List Addr)(G:Str->List α):Prop where
 len:ls.length=hs.length
 nd:ls.Nodup
 at_:∀(i:Nat) (l:Addr) (x:Str),ls[i]?=some l->hs[i]?=some x->(∃us,H' l=some (.lst us)/\AtG Oa H' us (G x))/\H l=none
section
variable{α:Type}{Oa:Hp->Addr->α->Prop}{H H' H'':Hp}{hs:List Str}{ls:List Addr}{G:Str->List α}
theorem GL.nil:GL Oa H H' [] [] G:=⟨rfl,List.nodup_nil,λi l x e _=>by cases e⟩
theorem GL.mono(h:GL Oa H H' hs ls G)(h1:∀l us,H' l=some (.lst us)->H'' l=some (.lst us))(h2:∀b a,Oa H' b a->Oa H'' b a):GL Oa H H'' hs ls G:=
 ⟨h.len,h.nd,λi l x e1 e2=>let ⟨⟨us,e,a⟩,n⟩:=h.at_ i l x e1 e2;⟨⟨us,h1 _ _ e,AtG.mono a h2⟩,n⟩⟩
theorem GL.snoc{x:Str}{p:Addr}(h:GL Oa H H' hs ls G)(hp:H' p=some (.lst []))(hp0:H p=none)(hn:p∉ls)(hG:G x=[]):GL Oa H H' (hs ++ [x]) (ls ++ [p]) G:=by
 refine⟨by rw[List.length_append,List.length_append,h.len];rfl,List.nodup_append.mpr ⟨h.nd,by simp,λa ha b hb z=>hn (by rw[←List.mem_singleton.mp hb,←z];exact ha)⟩,λi l y e1 e2=>?_⟩
 rcases Nat.lt_or_ge i ls.length with z|z
 ·rw[List.getElem?_append_left z] at e1
  rw[List.getElem?_append_left (by rw[←h.len];exact z)] at e2
  exact h.at_ i l y e1 e2
 ·rw[List.getElem?_append_right z] at e1
  rw[List.getElem?_append_right (by rw[←h.len];exact z),←h.len] at e2
  cases hk:i -ls.length with
  |zero=>rw[hk] at e1 e2;cases e1;cases e2;exact⟨⟨[],hp,by rw[hG];exact⟨rfl,λi v p e _=>by cases e⟩⟩,hp0⟩
  |succ n=>rw[hk] at e1;cases e1
theorem GL.app{i:Nat}{l b:Addr}{x:Str}{a:α}{us:List V}(h:GL Oa H H' hs ls G)(nh:hs.Nodup)(el:ls[i]?=some l)(ex:hs[i]?=some x)(eu:H' l=some (.lst us))(hO:∀c d,Oa H' c d->Oa (upd H' l (.lst (us ++ [.ref b]))) c d)(o:Oa H' b a):
 GL Oa H (upd H' l (.lst (us ++ [.ref b]))) hs ls (λz=>if z=x then G x ++ [a] else G z):=by
 have il:i<ls.length:=by
  rcases Nat.lt_or_ge i ls.length with z|z
  ·exact z
  ·rw[List.getElem?_eq_none z] at el;cases el
 have ih:i<hs.length:=by rw[←h.len];exact il
 rw[List.getElem?_eq_getElem il] at el
 rw[List.getElem?_eq_getElem ih] at ex
 refine⟨h.len,h.nd,λj l' y e1 e2=>?_⟩
 obtain⟨⟨us',eu',at'⟩,n⟩:=h.at_ j l' y e1 e2
 refine⟨?_,n⟩
 have jl:j<ls.length:=by
  rcases Nat.lt_or_ge j ls.length with z|z
  ·exact z
  ·rw[List.getElem?_eq_none z] at e1;cases e1
 have jh:j<hs.length:=by rw[←h.len];exact jl
 rw[List.getElem?_eq_getElem jl] at e1
 rw[List.getElem?_eq_getElem jh] at e2
 by_cases hij:j=i
 ·subst hij
  have e3:l'=l:=(Option.some.inj e1).symm.trans (Option.some.inj el)
  have e4:y=x:=(Option.some.inj e2).symm.trans (Option.some.inj ex)
  subst e3 e4
  rw[eu] at eu'
  cases eu'
  refine⟨_,zb,?_⟩
  simp only[if_true]
  exact AtG.snoc (AtG.mono at' hO) (hO _ _ o)
 ·have nl:l'≠l:=λz=>hij ((List.getElem_inj h.nd).mp ((Option.some.inj e1).trans (z.trans (Option.some.inj el).symm)))
  have ny:y≠x:=λz=>hij ((List.getElem_inj nh).mp ((Option.some.inj e2).trans (z.trans (Option.some.inj ex).symm)))
  refine⟨us',by rw[ze nl];exact eu',?_⟩
  simp only[if_neg ny]
  exact AtG.mono at' hO
theorem GL.get(h:GL Oa H H' hs ls G)(nh:hs.Nodup){x:Str}(hx:x∈hs):∃(i:Nat) (l:Addr) (us:List V),ls[i]?=some l/\hs[i]?=some x/\zaI (zaP hs (ls.map V.ref)) (Sum.inr x)=some (.ref l)/\H' l=some (.lst us)/\AtG Oa H' us (G x)/\H l=none:=by
 obtain⟨i,hi,e⟩:=List.getElem_of_mem hx
 have il:i<ls.length:=by rw[h.len];exact hi
 have e1:ls[i]?=some ls[i]:=List.getElem?_eq_getElem il
 have e2:hs[i]?=some x:=by rw[List.getElem?_eq_getElem hi,e]
 obtain⟨⟨us,eu,at'⟩,n⟩:=h.at_ i _ x e1 e2
 exact⟨i,ls[i],us,e1,e2,ziX nh e2 (by rw[List.getElem?_map,e1];rfl),eu,at',n⟩
end
theorem zjB{hs:List Str}{ys:List V}{x:Str}{y:V}(h:hs.length=ys.length):zaP (hs ++ [x]) (ys ++ [y])=zaP hs ys ++ [(Sum.inr x,y)]:=by
 unfold zaP
 rw[List.zip_append h,List.map_append];rfl
theorem zjz{hs:List Str}{ys:List V}{x:Str}(h:x∉hs):zaI (zaP hs ys) (Sum.inr x)=none:=by
 induction hs generalizing ys with
 |nil=>rfl
 |cons a hs ih=>
  cases ys with
  |nil=>rfl
  |cons y ys=>
   show zaI ((Sum.inr a,y)::zaP hs ys) (Sum.inr x)=none
   rw[zcI λz=>h (by rw[←Sum.inr.inj z];exact List.mem_cons_self)]
   exact ih λz=>h (List.mem_cons_of_mem _ z)
theorem zhj{hs:List Str}{ys:List V}{x:Str}{y:V}(h:hs.length=ys.length)(hx:x∉hs):zar (zaP hs ys) (Sum.inr x) y=zaP (hs ++ [x]) (ys ++ [y]):=by
 rw[zhp _ (zjz hx),zjB h]
def zop(g:Str)(ps:List (Str×Str))(M:List Str->Option (List Str))(rs:List D)(x:Str)(k:Ky):Prop:=∃r m,k=kE rs (x::r,m)/\SW g ps (x::r)/\M (x::r)=some m
def Due(g:Str)(hs:List Str)(ps:List (Str×Str))(lks hds:List D)(x:Str)(ws:List (List Str)):Prop:=(x=g/\ws=[[g]])\/(x≠g/\∃ks:List Ky,ks.Pairwise (λa b=>ltK a b=true)/\(∀k,k∈ks↔zop g ps (zk hs lks hds) (zO hs lks x) x k)/\ws=ks.map (·.2.2))
theorem zeU:∀{as bs:List Ky},as.Pairwise (λa b=>ltK a b=true)->bs.Pairwise (λa b=>ltK a b=true)->(∀k,k∈as↔k∈bs)->as=bs
 |[],[],_,_,_=>rfl
 |[],b::bs,_,_,h=>absurd ((h b).mpr List.mem_cons_self) (by simp)
 |a::as,[],_,_,h=>absurd ((h a).mp List.mem_cons_self) (by simp)
 |a::as,b::bs,h1,h2,h=>by
  rw[List.pairwise_cons] at h1 h2
  have e:a=b:=by
   rcases List.mem_cons.mp ((h a).mp List.mem_cons_self)with z|z
   ·exact z
   ·rcases List.mem_cons.mp ((h b).mpr List.mem_cons_self)with y|y
    ·exact y.symm
    ·have:=zhX (h1.1 b y) (h2.1 a z)
     rw[zdK] at this;cases this
  subst e
  rw[zeU h1.2 h2.2 λk=>?_]
  constructor
  ·intro hk
   rcases List.mem_cons.mp ((h k).mp (List.mem_cons_of_mem _ hk))with z|z
   ·subst z;have:=h1.1 k hk;rw[zdK] at this;cases this
   ·exact z
  ·intro hk
   rcases List.mem_cons.mp ((h k).mpr (List.mem_cons_of_mem _ hk))with z|z
   ·subst z;have:=h2.1 k hk;rw[zdK] at this;cases this
   ·exact z
theorem Due.uniq{g:Str}{hs:List Str}{ps:List (Str×Str)}{lks hds:List D}{x:Str}{ws ws':List (List Str)}(h:Due g hs ps lks hds x ws)(h':Due g hs ps lks hds x ws'):ws=ws':=by
 rcases h with⟨e,rfl⟩|⟨n,ks,p1,m1,rfl⟩<;>rcases h' with⟨e',rfl⟩|⟨n',ks',p2,m2,rfl⟩
 ·rfl
 ·exact absurd e n'
 ·exact absurd e' n
 ·rw[zeU p1 p2 λk=>(m1 k).trans (m2 k).symm]
end
section
variable{P:Program}{w:World}{K:PySem.W.Frag}{mg:Str->Option Value}{base:Heap}
theorem zft{ws ms:List Str}:∀{rs:List D},(∀r∈rs,zQ r=true)->zw ws ms rs= .non\/∃i,zw ws ms rs= .int i
 |[],_=> .inr ⟨0,rfl⟩
 |r::rs,h=>by
  rw[zw]
  split
  ·obtain ⟨cs,x,rfl,_,_,hx⟩:=zfp (h r List.mem_cons_self)
   exact hx
  ·exact zft λr hr=>h r (List.mem_cons_of_mem _ hr)
theorem zkk{g:Str}{hs:List Str}{ps:List (Str×Str)}{lks hds:List D}(T:TownOk g hs ps lks hds){j:Nat}{rs:List D}(h:lks[j]?=some (.tup rs)):∀r∈rs,zQ r=true:=by
 have:=T.likes _ (List.mem_of_getElem? h)
 have:(decide (rs.length<=90)&&rs.all zQ)=true:=this
 exact List.all_eq_true.mp ((Bool.and_eq_true _ _).mp this).2
theorem zgC{g:Str}{hs:List Str}{ps:List (Str×Str)}{lks hds:List D}{O:List Str}(T:TownOk g hs ps lks hds)(PO:Pool hs lks hds O){x:Str}{r m:List Str}(s:SW g ps (x::r))(hx:x≠g)(e:zk hs lks hds (x::r)=some m):EOk x (zO hs lks x) (x::r,m):=by
 have tin:∀p∈ps,p.1∈hs/\p.2∈hs:=λp hp=>⟨(T.ties p hp).1,(T.ties p hp).2.1⟩
 have mem:=SW.mem T.goal tin s
 have MR:=zbA T PO mem e
 have w10:(x::r).length<=10:=Nat.le_trans (zV s.nd mem) T.ten
 refine⟨⟨r,rfl⟩,λy hy=>T.names y (mem y hy),λy hy=>PO.nm y (MR.mem y hy),by show(x::r).length<=80;omega,Nat.le_trans (MR.toMk.len PO.few) (by decide),?_⟩
 obtain⟨j,rs,hj,hlj,er⟩:=zgQ T (mem x List.mem_cons_self)
 rw[er]
 cases r with
 |nil=>exact absurd s.one hx
 |cons a q=>
  rw[zk] at e
  cases e1:zk hs lks hds (a::q)with
  |none=>rw[e1] at e;cases e
  |some t=>
   rw[e1] at e
   have e:zao hs lks hds x (a::q) t=some m:=e
   unfold zao at e
   split at e
   ·cases e
   ·rename_i t' _
    by_cases hb:zdj (zw (x::a::q) t' (zO hs lks x))=true
    ·rw[if_pos hb] at e;cases e
    ·rw[if_neg hb] at e
     cases e
     rw[er] at hb
     rcases zft (ws:=x::a::q) (ms:=m) (zkk T hlj)with z|⟨i,z⟩
     ·rw[z] at hb;exact absurd rfl hb
     ·show zw (x::a::q) m rs= .int (wI rs (x::a::q,m))
      unfold wI
      simp only[z]
theorem GL.snocW{α:Type}{Oa:Hp->Addr->α->Prop}{H H':Hp}{hs:List Str}{ls:List Addr}{G:Str->List α}{x:Str}{p:Addr}{us:List V}{zs:List α}(h:GL Oa H H' hs ls G)(hx:x∉hs)(hp:H' p=some (.lst us))(ha:AtG Oa H' us zs)(hp0:H p=none)(hn:p∉ls):GL Oa H H' (hs ++ [x]) (ls ++ [p]) (λz=>if z=x then zs else G z):=by
 refine⟨by rw[List.length_append,List.length_append,h.len];rfl,List.nodup_append.mpr ⟨h.nd,by simp,λa ha b hb z=>hn (by rw[←List.mem_singleton.mp hb,←z];exact ha)⟩,λi l y e1 e2=>?_⟩
 rcases Nat.lt_or_ge i ls.length with z|z
 ·rw[List.getElem?_append_left z] at e1
  rw[List.getElem?_append_left (by rw[←h.len];exact z)] at e2
  have:y≠x:=λw=>hx (w▸List.mem_of_getElem? e2)
  simp only[if_neg this]
  exact h.at_ i l y e1 e2
 ·rw[List.getElem?_append_right z] at e1
  rw[List.getElem?_append_right (by rw[←h.len];exact z),←h.len] at e2
  cases hk:i -ls.length with
  |zero=>
   rw[hk] at e1 e2;cases e1;cases e2
   simp only[if_true]
   exact⟨⟨us,hp,ha⟩,hp0⟩
  |succ n=>rw[hk] at e1;cases e1
def ent(M:List Str->Option (List Str))(L:List (List Str))(x:Str):List WM:=(L.filter λw=>decide (w.head?=some x)).map λw=>(w,(M w).getD [])
theorem zlr{M:List Str->Option (List Str)}{L:List (List Str)}{i:Nat}{x:Str}{r ms:List Str}(e:L[i]?=some (x::r))(em:M (x::r)=some ms):ent M (L.take (i+1))=λz=>if z=x then ent M (L.take i) x ++ [(x::r,ms)] else ent M (L.take i) z:=by
 funext z
 unfold ent
 rw[List.take_add_one,e,List.filter_append,List.map_append]
 show _ ++List.map _ (List.filter _ [x::r])=_
 by_cases h:z=x
 ·subst h
  rw[if_pos rfl,List.filter_cons_of_pos (by simp),List.filter_nil]
  show _ ++ [(z::r,(M (z::r)).getD [])]=_
  rw[em];rfl
 ·rw[if_neg h,List.filter_cons_of_neg (by simp;exact λw=>h w.symm),List.filter_nil]
  show _ ++ []=_
  rw[List.append_nil]
def zil:Sp:=λvs H Q _=>∃(v:V) (g:Str) (hs:List Str) (ps:List (Str×Str)) (lks hds:List D) (O:List Str),vs=[v]/\Rep H v (zaB g hs ps lks hds)/\TownOk g hs ps lks hds/\Pool hs lks hds O/\zbT ps/\∀(d:Addr) (ls:List Addr) (W:Str->List (List Str)) (H':Hp),H' d=some (.dK (zaP hs (ls.map V.ref)))->GL zb0 H H' hs ls W->(∀x∈hs,Due g hs ps lks hds x (W x))->H d=none->Same H H'->Q (.ref d) H'
theorem zix(Y:Ev K mg):FnOk P w K mg base CX0 8 Y.a_lets Y.d_lets zdT zil:=by
 have G_let_marks:FnOk P w K mg base CX0 7 Y.a_let_marks Y.d_let_marks zbw zle:=zgg Y
 have G_most_liked_first:FnOk P w K mg base CX0 7 Y.a_most_liked_first Y.d_most_liked_first z7 znQ:=zc4 Y
 refine Y.lets.fn.okQ c_lets (λvs H Q E h=>?_) (λcdv A outer s H vs Q E hr h=>?_)
 ·obtain ⟨v,g,hs,ps,lks,hds,O,rfl,_⟩:=h;rfl
 ·obtain ⟨v,g,hs,ps,lks,hds,O,rfl,hv,T,PO,sp,q⟩:=h
  obtain⟨p,pr,pt,pl,pa,vt,vl,va,rfl,hp,hpr,hpt,rt,hpl,rl,hpa,ra⟩:=zbv hv
  have T10:=T.ten
  have hsN:hs.Nodup:=T.hs_nd
  refine⟨_,(zg (zd6 (zc3 zaH (qc 0) zaQ (zaO zf)) (zda 2 rfl (zH (zgB 1 c_lets.nd) (zH (zt 2 c_lets.nd) zbK))))
   (zg (zcm 3 c_lets.nd (zg1 (src:=[none]) o_lets_1 rfl rfl (zbY (qv 2)) (λ_ _ _ _ _=>(zt 0 o_lets_1.nd)) (λ_ _ _ _ _=>zbW) (λ_ _ _ _ _=>(qv 0)) (λ_ _ _ _ _=>(zbN zc))))
   (zg (zbx PassesOwn.never rfl (zj7 (zj G_let_marks (hr.mono (by decide)) Y.let_marks.mg Y.let_marks.kp Y.let_marks.b .nil zo (za (qc 0) zc))) (zda 2 rfl (zH (zt 4 c_lets.nd) (zH (zt 5 c_lets.nd) zbK))) (zm (zdc (zgk PySem.F.plainAttrs_list PySem.F.slot_list_append PySem.F.type_list_append zaD (zca (hu1 hr) (qc 3) (zT ix_tup (qv 4) zf)) (za (zD (za (qv 4) (za (qv 5) zc))) zc)))))
   (zm (zx (zg1 (src:=[none,some 1,some 3,some 0]) o_lets_2 rfl rfl (zbY (qv 2)) (λ_ _ _ _ _=>(zt 0 o_lets_2.nd)) (λ_ _ _ _ _=>zbW) (λ_ _ _ _ _=>(qv 0)) (λ_ _ _ _ _=>(zpd (zI zak (qv 0) (qc 1)) (zbN (za (zD (za (qc 1) zc)) zc)) (zj G_most_liked_first (hr.mono (by decide)) Y.most_liked_first.mg Y.most_liked_first.kp Y.most_liked_first.b .nil zo (za (qc 3) (za (zca (hu1 hr) (qc 2) (qv 0)) zc))))))))))),?_⟩
  have ecut:zaY [V.str g,V.ref pr,V.ref pt,V.ref pl,V.ref pa] none (some 2)=[V.str g,V.ref pr]:=za8 (n:=2)
  refine⟨_,rfl,_,rfl,p,_,rfl, .inl (.inl hp),λz=>?_,λp1 hp1=>?_⟩
  ·rw[ecut] at z;cases z
  rw[ecut]
  have S1:=Same.new (o:= .tup [V.str g,V.ref pr]) hp1
  refine⟨p1,_,rfl, .inl (.inl zb),rfl,_,_,rfl,_,_,rfl,rfl,?_⟩
  generalize (upd H p1 (HO.tup [V.str g,V.ref pr]))=H1 at *
  have hpr1:=S1 _ _ hpr
  refine⟨_,rfl,pr,rfl,⟨_, .inl (.inl hpr1)⟩,?_⟩
  refine zfv (zaU (K:=K) (xs:=hs.map V.str)) (λl i ys σ' H'=>(∃o,σ'=[o])/\∃ls,ys=zaP (hs.take i) (ls.map V.ref)/\GL zke H H' (hs.take i) ls (λ_=> [])/\Same H1 H') ?_ (λl i ys σ' H' hl ⟨_,_,_,_,s⟩=> .inl (.inl (s _ _ hpr1))) ?_ ?_
  ·exact λl hl=>⟨⟨_,rfl⟩,[],rfl,GL.nil,Same.new hl⟩
  ·rintro l i y0 ys σ' H2 hl' hi hy ⟨⟨o,rfl⟩,ls,rfl,gl,s2⟩ hl2
   rw[List.length_map] at hi
   rw[List.getElem?_map] at hy
   obtain⟨y,ey,rfl⟩:∃y,hs[i]?=some y/\y0= .str y:=by
    cases e:hs[i]? with
    |none=>rw[e] at hy;cases hy
    |some y=>rw[e] at hy;cases hy;exact⟨y,rfl,rfl⟩
   have tk:hs.take (i+1)=hs.take i ++ [y]:=by rw[List.take_add_one,ey];rfl
   have ynew:y∉hs.take i:=λz=>by
    have:(hs.take i ++ [y]).Nodup:=by rw[←tk];exact hsN.sublist (List.take_sublist _ _)
    exact(List.nodup_append.mp this).2.2 y z y (List.mem_singleton.mpr rfl) rfl
   refine⟨_,rfl,few rfl,λp2 hp2=>?_⟩
   have hl3:=Same.new (o:= .lst []) hp2 _ _ hl2
   have nlp:p2≠l:=λz=>by rw[z,hl2] at hp2;cases hp2
   have lz:(hs.take i).length=(ls.map V.ref).length:=by rw[List.length_map,gl.len]
   refine⟨Sum.inr y,rfl,hl3,?_,⟨_,rfl⟩,ls ++ [p2],?_,?_,?_⟩
   ·refine zn ?_
    unfold zaP
    rw[List.length_map,List.length_zip,List.length_take];omega
   ·rw[tk,zhj lz ynew,List.map_append];rfl
   ·rw[tk]
    have up1:∀c us,H2 c=some (.lst us)->upd (upd H2 p2 (.lst [])) l (.dK (zar (zaP (hs.take i) (ls.map V.ref)) (Sum.inr y) (.ref p2))) c=some (.lst us):=λc us e=>by
     rw[ze (zaN e hl2 (by intro z;cases z))]
     exact Same.new hp2 _ _ e
    have up2:∀c us,H2 c=some (.tup us)->upd (upd H2 p2 (.lst [])) l (.dK (zar (zaP (hs.take i) (ls.map V.ref)) (Sum.inr y) (.ref p2))) c=some (.tup us):=λc us e=>by
     rw[ze (zaN e hl2 (by intro z;cases z))]
     exact Same.new hp2 _ _ e
    refine GL.snoc (gl.mono up1 λb a ⟨pw,pm,e1,e2,e3⟩=>⟨pw,pm,up2 _ _ e1,up2 _ _ e2,up2 _ _ e3⟩) (by rw[ze nlp,zb]) (zaC (S1.trans s2) hp2) (λz=>?_) rfl
    obtain⟨k,hk,e⟩:=List.getElem_of_mem z
    have hk':k<(hs.take i).length:=by rw[←gl.len];exact hk
    obtain⟨⟨us,e',_⟩,_⟩:=gl.at_ k p2 _ (by rw[List.getElem?_eq_getElem hk,e]) (List.getElem?_eq_getElem hk')
    rw[hp2] at e';cases e'
   ·intro c o e
    rw[ze (zi e hl')]
    exact Same.new hp2 _ _ (s2 c o e)
  rintro md kv0 σ' H2 hmdN ⟨⟨o,rfl⟩,ls,rfl,gl,s2⟩ hmd2
  rw[List.length_map,List.take_length] at gl hmd2
  have s02:=S1.trans s2
  refine⟨_,rfl, .ref p,g,hs,ps,lks,hds,O,rfl,hv.same s02,T,PO,sp,λd kvs L H3 hd3 lm ndL mem hdn s3=>?_⟩
  refine⟨d,kvs,rfl,hd3,λo bs kb ndk=>?_⟩
  have hmd3:=s3 _ _ hmd2
  have mdd:md≠d:=λz=>by rw[z,hdn] at hmd2;cases hmd2
  have hdH:H d=none:=zaC s02 hdn
  have lz:((bs.zip kvs).map λp=>(V.ref p.1,p.2.2)).length=L.length:=by rw[List.length_map,List.length_zip,kb.1,Nat.min_self,lm.len]
  have fewL:=zgc T.goal (λp hp=>⟨(T.ties p hp).1,(T.ties p hp).2.1⟩) sp ndL λw hw=>((mem w).mp hw).1
  refine zfY (n:=L.length) (λi σ' H'=>(∃o4 o5,σ'=[some (.ref p),some (.str g),some (.ref pr),some (.ref md),o4,o5])/\H' md=some (.dK (zaP hs (ls.map V.ref)))/\GL zke H H' hs ls (ent (zk hs lks hds) (L.take i))/\H' d=some (.frz o (.dT kvs))/\(∀c xs,H3 c=some (.tup xs)->H' c=some (.tup xs))/\Same H H') ?_ (λi σ' H' hi z=>⟨by rw[lz];exact hi,z.2.2.2.1⟩) (λσ' H' z=>⟨by rw[lz];exact Nat.le_refl _,z.2.2.2.1⟩) ?_ ?_
  ·have u3:∀c ob,c≠d->H3 c=some ob->upd H3 d (.frz o (.dT kvs)) c=some ob:=λc ob hc e=>by rw[ze hc];exact e
   have t3:∀c xs,H3 c=some (.tup xs)->upd H3 d (.frz o (.dT kvs)) c=some (.tup xs):=λc xs e=>u3 _ _ (zaN e hd3 (by intro z;cases z)) e
   exact⟨⟨_,_,rfl⟩,u3 _ _ mdd hmd3,gl.mono (λc us e=>u3 _ _ (zaN (s3 _ _ e) hd3 (by intro z;cases z)) (s3 _ _ e)) λb a ⟨pw,pm,e1,e2,e3⟩=>⟨pw,pm,t3 _ _ (s3 _ _ e1),t3 _ _ (s3 _ _ e2),t3 _ _ (s3 _ _ e3)⟩,zb,t3,λc ob e=>u3 _ _ (zi e hdH) (s3 _ _ (s02 c ob e))⟩
  ·rintro i x0 σ' H5 H6 hi ⟨⟨o4,o5,rfl⟩,hm5,gl5,hd5,t5,s5⟩ ⟨Tt,pr',ek,rfl,hT,rfl⟩
   rw[List.getElem?_map] at ek
   obtain⟨w,ew⟩:∃w,L[i]?=some w:=⟨_,List.getElem?_eq_getElem hi⟩
   have hk:i<kvs.length:=by rw[lm.len];exact hi
   have hbs:i<bs.length:=by rw[kb.1];exact hk
   have ez:(bs.zip kvs)[i]?=some (bs[i],kvs[i]):=by rw[List.getElem?_zip_eq_some];exact⟨List.getElem?_eq_getElem hbs,List.getElem?_eq_getElem hk⟩
   rw[ez] at ek
   cases ek
   obtain⟨e1,pm,ms,e2,e3,e4⟩:=lm.at_ i kvs[i] w (List.getElem?_eq_getElem hk) ew
   have hb3:=kb.2 i bs[i] kvs[i] (List.getElem?_eq_getElem hbs) (List.getElem?_eq_getElem hk)
   rw[e1,zgE] at hb3
   dsimp only
   rw[e2]
   generalize bs[i]=b at *
   have wL:w∈L:=List.mem_of_getElem? ew
   obtain⟨sw,_⟩:=(mem w).mp wL
   obtain⟨x,r,rfl⟩:=sw.ne
   have hxh:x∈hs:=SW.mem T.goal (λp hp=>⟨(T.ties p hp).1,(T.ties p hp).2.1⟩) sw x List.mem_cons_self
   have ST:=Same.new (o:= .tup [V.ref b,V.ref pm]) hT
   refine⟨Tt,_,rfl, .inl (.inl zb),rfl,_,_,rfl,_,_,rfl,rfl,?_⟩
   have hb6:=ST _ _ (t5 _ _ hb3)
   have hpm6:=ST _ _ (t5 _ _ e3)
   have gl6:=gl5.mono (H'':=upd H5 Tt (.tup [V.ref b,V.ref pm])) (λc us e=>ST _ _ e) λc a ⟨pw,pm',a1,a2,a3⟩=>⟨pw,pm',ST _ _ a1,ST _ _ a2,ST _ _ a3⟩
   have hm6:=ST _ _ hm5
   have hd6:=ST _ _ hd5
   have t6:∀c xs,H3 c=some (.tup xs)->upd H5 Tt (.tup [V.ref b,V.ref pm]) c=some (.tup xs):=λc xs e=>ST _ _ (t5 c xs e)
   have s6:=s5.trans ST
   generalize (upd H5 Tt (HO.tup [V.ref b,V.ref pm]))=H6 at *
   obtain⟨j,l,us,el,ex,ev,eu,au,ln⟩:=gl6.get hsN hxh
   have dg:DGet H6 md (.str x) (some (.ref l)):=by
    have:=DGet.k (k:=Sum.inr x) hm6
    rw[ev] at this;exact this
   refine⟨_,rfl,_,rfl,b,_,0,_,rfl,rfl, .inl (.inl hb6),at0,md, .ref l,rfl,dg, .inl ⟨rfl,_,SqL.of eu⟩,_,rfl,_,rfl,few rfl,λp8 hp8=>?_⟩
   have S8:=Same.new (o:= .tup [V.ref b,V.ref pm]) hp8
   have eu8:=S8 _ _ eu
   have lus:us.length<=160:=by
    rw[au.1]
    unfold ent
    rw[List.length_map]
    have h1:=(List.take_sublist i L).filter (λw=>decide (w.head?=some x))
    have h2:=h1.length_le
    have h3:=fewL.2 x
    omega
   refine⟨l,us, .ref p8,rfl,rfl,eu8,zn (by omega),?_⟩
   have t8:∀c xs,upd H6 p8 (.tup [V.ref b,V.ref pm]) c=some (.tup xs)->upd (upd H6 p8 (.tup [V.ref b,V.ref pm])) l (.lst (us ++ [.ref p8])) c=some (.tup xs):=λc xs e=>by rw[ze (zaN e eu8 (by intro z;cases z))];exact e
   have e8:upd H6 p8 (.tup [V.ref b,V.ref pm]) p8=some (.tup [V.ref b,V.ref pm]):=zb
   generalize (upd H6 p8 (HO.tup [V.ref b,V.ref pm]))=H8 at *
   have gl8:=gl6.mono (H'':=H8) (λc us e=>S8 _ _ e) λc a ⟨pw,pm',a1,a2,a3⟩=>⟨pw,pm',S8 _ _ a1,S8 _ _ a2,S8 _ _ a3⟩
   refine⟨⟨_,_,rfl⟩,by rw[ze (zaN (S8 _ _ hm6) eu8 (by intro z;cases z))];exact S8 _ _ hm6,?_,by rw[ze (zaN (S8 _ _ hd6) eu8 (by intro z;cases z))];exact S8 _ _ hd6,λc xs e=>t8 _ _ (S8 _ _ (t6 c xs e)),λc ob e=>by rw[ze (zi e ln)];exact S8 _ _ (s6 c ob e)⟩
   rw[zlr ew e4]
   exact gl8.app hsN el ex eu8 (λc a ⟨pw,pm',a1,a2,a3⟩=>⟨pw,pm',t8 _ _ a1,t8 _ _ a2,t8 _ _ a3⟩) ⟨b,pm,e8,S8 _ _ hb6,S8 _ _ hpm6⟩
  rintro σ' H5 ⟨⟨o4,o5,rfl⟩,hm5,gl5,hd5,t5,s5⟩
  rw[List.take_length] at gl5
  have hpr5:=s5 _ _ hpr
  refine⟨_,rfl,pr,rfl,⟨_, .inl (.inl hpr5)⟩,?_⟩
  refine zfv (zaU (K:=K) (xs:=hs.map V.str)) (λl i ys σ' H'=>(∃o,σ'=[o,some (.str g),some (.ref md),some (.ref p)])/\∃(ls':List Addr) (W:Str->List (List Str)),ys=zaP (hs.take i) (ls'.map V.ref)/\GL zb0 H H' (hs.take i) ls' W/\(∀x∈hs.take i,Due g hs ps lks hds x (W x))/\Same H5 H') ?_ (λl i ys σ' H' hl ⟨_,_,_,_,_,_,s⟩=> .inl (.inl (s _ _ hpr5))) ?_ ?_
  ·exact λl hl=>⟨⟨_,rfl⟩,[],λ_=> [],rfl,GL.nil,λ_ z=>(nomatch z),Same.new hl⟩
  ·rintro l i y0 ys σ' H6 hl' hi hy ⟨⟨o',rfl⟩,ls',W,rfl,gl',du,s6⟩ hl6
   rw[List.length_map] at hi
   rw[List.getElem?_map] at hy
   obtain⟨y,ey,rfl⟩:∃y,hs[i]?=some y/\y0= .str y:=by
    cases e:hs[i]? with
    |none=>rw[e] at hy;cases hy
    |some y=>rw[e] at hy;cases hy;exact⟨y,rfl,rfl⟩
   have tk:hs.take (i+1)=hs.take i ++ [y]:=by rw[List.take_add_one,ey];rfl
   have ynew:y∉hs.take i:=λz=>by
    have:(hs.take i ++ [y]).Nodup:=by rw[←tk];exact hsN.sublist (List.take_sublist _ _)
    exact(List.nodup_append.mp this).2.2 y z y (List.mem_singleton.mpr rfl) rfl
   have lz':(hs.take i).length=(ls'.map V.ref).length:=by rw[List.length_map,gl'.len]
   have fin:∀(p2:Addr) (us:List V) (ws:List (List Str)) (H7:Hp),Same H6 H7->H6 p2=none->H7 p2=some (.lst us)->AtG zb0 H7 us ws->Due g hs ps lks hds y ws->∃k',V.str y=kV k'/\H7 l=some (.dK (zaP (hs.take i) (ls'.map V.ref)))/\(zaP (hs.take i) (ls'.map V.ref)).length<sizeLine/\(∃o,[some (V.str y),some (.str g),some (.ref md),some (.ref p)]=[o,some (.str g),some (.ref md),some (.ref p)])/\∃(ls'':List Addr) (W':Str->List (List Str)),zar (zaP (hs.take i) (ls'.map V.ref)) k' (.ref p2)=zaP (hs.take (i+1)) (ls''.map V.ref)/\GL zb0 H (upd H7 l (.dK (zar (zaP (hs.take i) (ls'.map V.ref)) k' (.ref p2)))) (hs.take (i+1)) ls'' W'/\(∀x∈hs.take (i+1),Due g hs ps lks hds x (W' x))/\Same H5 (upd H7 l (.dK (zar (zaP (hs.take i) (ls'.map V.ref)) k' (.ref p2)))):=by
    intro p2 us ws H7 s7 hp2 e2 a2 dy
    have hl7:=s7 _ _ hl6
    refine⟨Sum.inr y,rfl,hl7,?_,⟨_,rfl⟩,ls' ++ [p2],λz=>if z=y then ws else W z,?_,?_,?_,?_⟩
    ·refine zn ?_
     unfold zaP
     rw[List.length_map,List.length_zip,List.length_take];omega
    ·rw[tk,zhj lz' ynew,List.map_append];rfl
    ·rw[tk]
     have up1:∀c us,H7 c=some (.lst us)->upd H7 l (.dK (zar (zaP (hs.take i) (ls'.map V.ref)) (Sum.inr y) (.ref p2))) c=some (.lst us):=λc us e=>by rw[ze (zaN e hl7 (by intro z;cases z))];exact e
     have up2:∀c us,H7 c=some (.tup us)->upd H7 l (.dK (zar (zaP (hs.take i) (ls'.map V.ref)) (Sum.inr y) (.ref p2))) c=some (.tup us):=λc us e=>by rw[ze (zaN e hl7 (by intro z;cases z))];exact e
     refine GL.snocW (gl'.mono (λc us e=>up1 _ _ (s7 _ _ e)) λb a e=>up2 _ _ (s7 _ _ e)) ynew (up1 _ _ e2) (AtG.mono a2 λb a e=>up2 _ _ e) (zaC (s5.trans s6) hp2) λz=>?_
     obtain⟨k,hk,e⟩:=List.getElem_of_mem z
     have hk':k<(hs.take i).length:=by rw[←gl'.len];exact hk
     obtain⟨⟨us,e',_⟩,_⟩:=gl'.at_ k p2 _ (by rw[List.getElem?_eq_getElem hk,e]) (List.getElem?_eq_getElem hk')
     rw[hp2] at e';cases e'
    ·intro x hx
     rw[tk] at hx
     show Due g hs ps lks hds x (if x=y then ws else W x)
     by_cases h:x=y
     ·rw[if_pos h,h];exact dy
     ·rw[if_neg h]
      rcases List.mem_append.mp hx with hx|hx
      ·exact du x hx
      ·exact absurd (List.mem_singleton.mp hx) h
    ·intro c ob e
     rw[ze (zi e hl')]
     exact s7 _ _ (s6 c ob e)
   have hyh:y∈hs:=List.mem_of_getElem? ey
   refine⟨_,rfl,_,rfl,_,rfl,rfl,_,rfl,zbS (λhc=>?_) (λhc=>?_)⟩
   ·have eg:y=g:=by simpa using hc
    refine⟨_,rfl,few rfl,λpA hpA=>⟨few rfl,λlB hlB=>?_⟩⟩
    have SA:=Same.new (o:= .tup [V.str g]) hpA
    have SB:=Same.new (o:= .lst [V.ref pA]) hlB
    refine fin lB [.ref pA] [[g]] _ (SA.trans SB) (SA.free hlB) zb ⟨rfl,λk v w h1 h2=>?_⟩ (.inl ⟨eg,rfl⟩)
    cases k with
    |zero=>cases h1;cases h2;exact⟨pA,rfl,SB _ _ zb⟩
    |succ k=>cases h1
   ·have ng:y≠g:=λz=>hc (by simp[z])
    obtain⟨k0,l0,us,el,ex,ev,eu,au,ln⟩:=gl5.get hsN hyh
    have dg:DGet H6 md (.str y) (some (.ref l0)):=by
     have:=DGet.k (k:=Sum.inr y) (s6 _ _ hm5)
     rw[ev] at this;exact this
    obtain⟨j,rs,hj,hlj,er⟩:=zgQ T hyh
    have em:∀e,e∈ent (zk hs lks hds) L y↔∃r m,e=(y::r,m)/\SW g ps (y::r)/\zk hs lks hds (y::r)=some m:=λe=>by
     unfold ent
     rw[List.mem_map]
     constructor
     ·rintro ⟨w,hw,rfl⟩
      obtain⟨h1,h2⟩:=List.mem_filter.mp hw
      obtain⟨s1,m1⟩:=(mem w).mp h1
      obtain⟨x,r,rfl⟩:=s1.ne
      have:x=y:=Option.some.inj (of_decide_eq_true h2)
      subst this
      cases e:zk hs lks hds (x::r)with
      |none=>exact absurd e m1
      |some m=>exact ⟨r,m,by rfl,s1,e⟩
     ·rintro ⟨r,m,rfl,s1,e1⟩
      exact⟨y::r,List.mem_filter.mpr ⟨(mem _).mpr ⟨s1,by rw[e1];exact λz=>nomatch z⟩,by simp⟩,by rw[e1];rfl⟩
    refine⟨_,rfl,_,rfl,_,rfl,md,_,rfl,dg, .ref p,l0,us,_,y,g,hs,ps,lks,hds,j,rs,rfl,hv.same (s5.trans s6),T,hj,hlj,s6 _ _ eu,AtG.mono au λb a ⟨pw,pm,a1,a2,a3⟩=>⟨pw,pm,s6 _ _ a1,s6 _ _ a2,s6 _ _ a3⟩,?_,?_,λe he=>?_,λl2 us2 ks H7 perm pw' e2 a2 hn s7=>fin l2 us2 _ H7 s7 hn e2 a2 (.inr ⟨ng,ks,pw',λk=>?_,rfl⟩)⟩
    ·unfold ent;rw[List.length_map];have:=fewL.2 y;omega
    ·unfold ent
     rw[List.map_map]
     show((L.filter _).map λw=>w).Nodup
     rw[List.map_id']
     exact ndL.sublist List.filter_sublist
    ·obtain ⟨r,m,rfl,s1,e1⟩:=(em e).mp he
     rw[←er];exact zgC T PO s1 ng e1
    ·rw[perm.mem_iff,List.mem_map,er]
     constructor
     ·rintro ⟨e,he,rfl⟩
      obtain⟨r,m,rfl,s1,e1⟩:=(em e).mp he
      exact⟨r,m,rfl,s1,e1⟩
     ·rintro ⟨r,m,rfl,s1,e1⟩
      exact⟨_,(em _).mpr ⟨r,m,rfl,s1,e1⟩,rfl⟩
  rintro l kv σ' H6 hlN ⟨⟨o',rfl⟩,ls',W,rfl,gl',du,s6⟩ hl6
  rw[List.length_map,List.take_length] at gl' du hl6
  exact q l ls' W H6 hl6 gl' du (zaC s5 hlN) (s5.trans s6)
end
section
variable{P:Program}{w:World}{K:PySem.W.Frag}{mg:Str->Option Value}{base:Heap}
theorem zkv{t:List Str}(hl:t.length<=13)(hn:∀y∈t,zh y=true):Shw 1095 2 (.tup (t.map D.str)):=znc (ds:=t.map D.str) (c:=82) (k:=1) 13 (by rw[List.length_map];exact hl) λd hd=>by obtain⟨y,hy,rfl⟩:=List.mem_map.mp hd;exact zkm (hn y hy)
theorem zd2{c:Nat}:∀(ts:List Str) (k:Nat) (acc:Str),(∀t∈ts,t.length<=c)->(textFrom k acc ts).length<=acc.length+ts.length*(c+2)
 |[],k,acc,_=>by show acc.length<=_;omega
 |t::r,k,acc,h=>by
  have h1:=zd2 r (k+1) (acc ++(if k>0 then", "else "":String)++t) λu hu=>h u (List.mem_cons_of_mem _ hu)
  have e:(acc ++(if k>0 then", "else "":String)++t).length<=acc.length+2+t.length:=by
   rw[zcv,zcv]
   have:(Str.ofString (if k>0 then", "else "":String)).length<=2:=by split<;>decide
   omega
  have ht:=h t List.mem_cons_self
  show(textFrom (k+1) _ r).length<=acc.length+(r.length+1)*(c+2)
  rw[Nat.succ_mul]
  omega
def zbX(ws:List (List Str)):PyData:= .list (ws.map λw=> .tuple (zq w))
structure WsOk(ws:List (List Str)):Prop where
 few:ws.length<=16
 len:∀w∈ws,w.length<=10
 nm:∀w∈ws,∀y∈w,zh y=true
theorem zfO{w:List Str}:pyD (.tup (w.map D.str))= .tuple (zq w):=by
 rw[pyD,zdq,List.map_map]
 unfold zq
 exact congrArg PyData.tuple (List.map_congr_left λx _=>by show pyD (.str x)=_;rw[pyD])
theorem zdx{ws:List (List Str)}(h:WsOk ws):(zbX ws).showable=true/\(zbX ws).depth<=60/\(zbX ws).shown.length<=sizeLine:=by
 have sh:∀w∈ws,Shw 1095 2 (.tup (w.map D.str)):=λw hw=>zkv (by have:=h.len w hw;omega) (h.nm w hw)
 unfold zbX
 refine⟨?_,?_,?_⟩
 ·rw[PyData.showable]
  exact RW.showableAll_of λx hx=>by obtain⟨w,hw,rfl⟩:=List.mem_map.mp hx;rw[←zfO];exact(sh w hw).2.1
 ·rw[PyData.depth]
  have:=zbJ (n:=2) (xs:=ws.map λw=> .tuple (zq w)) λx hx=>by obtain⟨w,hw,rfl⟩:=List.mem_map.mp hx;rw[←zfO];exact(sh w hw).2.2.1
  omega
 ·rw[PyData.shown,zcq,List.map_map]
  unfold listText
  rw[zcv]
  have:=zd2 (c:=1095) (ws.map (PyData.shown∘λw=> .tuple (zq w))) 0 "[" λt ht=>by
   obtain⟨w,hw,rfl⟩:=List.mem_map.mp ht
   show(PyData.shown (.tuple (zq w))).length<=_
   rw[←zfO];exact(sh w hw).2.2.2
  rw[List.length_map] at this
  have l1:("[":Str).length=1:=rfl
  have l2:(Str.ofString "]").length=1:=rfl
  have l2':("]":Str).length=1:=rfl
  have f:=h.few
  have:ws.length*(1095+2)<=16*1097:=Nat.mul_le_mul_right _ f
  refine Nat.le_trans (m:=20000) ?_ (Nat.le_of_ble_eq_true rfl)
  omega
theorem zdr{H:Hp}{l:Addr}{us:List V}{ws:List (List Str)}(e:H l=some (.lst us))(a:AtG zb0 H us ws)(h:WsOk ws):Tr H (.ref l) (zbX ws):=by
 refine .lst e (by rw[List.length_map];exact a.1) λi v d e1 e2=>?_
 rw[List.getElem?_map] at e2
 cases ew:ws[i]? with
 |none=>rw[ew] at e2;cases e2
 |some w=>
  rw[ew] at e2
  cases e2
  obtain⟨b,rfl,o⟩:=a.2 i v w e1 ew
  exact zap o λx hx=>zP (h.nm w (List.mem_of_getElem? ew) x hx)
theorem zdU{g:Str}{hs:List Str}{ps:List (Str×Str)}{lks hds:List D}{x:Str}{ws:List (List Str)}(T:TownOk g hs ps lks hds)(sp:zbT ps)(h:Due g hs ps lks hds x ws):WsOk ws:=by
 have tin:∀p∈ps,p.1∈hs/\p.2∈hs:=λp hp=>⟨(T.ties p hp).1,(T.ties p hp).2.1⟩
 rcases h with⟨rfl,rfl⟩|⟨hx,ks,pw,mem,rfl⟩
 ·exact ⟨(by decide:1<=16),λw hw=>by rw[List.mem_singleton.mp hw];exact(by decide:1<=10),λw hw y hy=>by rw[List.mem_singleton.mp hw] at hy;rw[List.mem_singleton.mp hy];exact T.names _ T.goal⟩
 ·have sw:∀w∈ks.map (·.2.2),SW g ps w/\w.head?=some x:=λw hw=>by
   obtain⟨k,hk,rfl⟩:=List.mem_map.mp hw
   obtain⟨r,m,rfl,s1,_⟩:=(mem k).mp hk
   exact⟨s1,rfl⟩
  have nd:(ks.map (·.2.2)).Nodup:=by
   refine List.pairwise_map.mpr ?_
   have pw':ks.Pairwise (λa b=>(zop g ps (zk hs lks hds) (zO hs lks x) x a/\zop g ps (zk hs lks hds) (zO hs lks x) x b)/\ltK a b=true):=by
    refine List.Pairwise.imp_of_mem (λ{a b} ha hb h=>⟨⟨(mem a).mp ha,(mem b).mp hb⟩,h⟩) pw
   refine pw'.imp λ{a b} ⟨⟨ha,hb⟩,hl⟩ z=>?_
   obtain⟨r,m,rfl,s1,e1⟩:=ha
   obtain⟨r',m',rfl,s2,e2⟩:=hb
   have z:x::r=x::r':=z
   cases z
   rw[e1] at e2
   cases e2
   rw[zdK] at hl;cases hl
  have f:=(zgc T.goal tin sp nd λw hw=>(sw w hw).1).2 x
  rw[List.filter_eq_self.mpr λw hw=>decide_eq_true (sw w hw).2] at f
  exact⟨f,λw hw=>Nat.le_trans (zV (sw w hw).1.nd (SW.mem T.goal tin (sw w hw).1)) T.ten,λw hw y hy=>T.names y (SW.mem T.goal tin (sw w hw).1 y hy)⟩
theorem GL.tr{H H':Hp}{hs:List Str}{ls:List Addr}{W:Str->List (List Str)}(gl:GL zb0 H H' hs ls W)(nh:hs.Nodup){x:Str}(hx:x∈hs)(ok:WsOk (W x)):∃l us,zaI (zaP hs (ls.map V.ref)) (Sum.inr x)=some (.ref l)/\H' l=some (.lst us)/\AtG zb0 H' us (W x)/\Tr H' (.ref l) (zbX (W x)):=by
 obtain⟨i,l,us,el,ex,ev,eu,au,n⟩:=gl.get nh hx
 exact⟨l,us,ev,eu,au,zdr eu au ok⟩
theorem zha{hs:List Str}{ys:List V}(h:ys.length=hs.length):(zaP hs ys).length=hs.length:=by
 unfold zaP;rw[List.length_map,List.length_zip,h,Nat.min_self]
end
section
variable{P:Program}{w:World}{K:PySem.W.Frag}{mg:Str->Option Value}{base:Heap}
theorem zkV{ws:List (List Str)}{w:List Str}:((ws.map λw=>PyData.tuple (zq w)).any λy=>y.eqv (.tuple (zq w)))=decide (w∈ws):=by
 induction ws with
 |nil=>rfl
 |cons v ws ih=>
  rw[List.map_cons,List.any_cons,ih,zbQ,Bool.eq_iff_iff,Bool.or_eq_true,decide_eq_true_iff,decide_eq_true_iff,decide_eq_true_iff,List.mem_cons]
  exact⟨λh=>h.imp (λe=>e.symm) id,λh=>h.imp (λe=>e.symm) id⟩
theorem zlR{g:Str}{hs:List Str}{ps:List (Str×Str)}{lks hds:List D}{x:Str}{r m:List Str}{ws:List (List Str)}(h:Due g hs ps lks hds x ws)(s:SW g ps (x::r))(e:zk hs lks hds (x::r)=some m):x::r∈ws:=by
 rcases h with⟨rfl,rfl⟩|⟨hx,ks,pw,mem,rfl⟩
 ·rw[s.at_goal];exact List.mem_singleton.mpr rfl
 ·exact List.mem_map.mpr ⟨_,(mem _).mpr ⟨r,m,rfl,s,e⟩,rfl⟩
theorem zhA{hs:List Str}{lks hds:List D}{x a:Str}{q m:List Str}(h:zk hs lks hds (x::a::q)=some m):∃t,zk hs lks hds (a::q)=some t/\zv (a::q) (some x) (zO hs hds a) t=some m/\zdj (zw (x::a::q) m (zO hs lks x))=false:=by
 rw[zk] at h
 cases e:zk hs lks hds (a::q)with
 |none=>rw[e] at h;cases h
 |some t=>
  rw[e] at h
  have h:zao hs lks hds x (a::q) t=some m:=h
  unfold zao at h
  rw[show(a::q).headD ""=a from rfl] at h
  refine⟨t,rfl,?_⟩
  cases e2:zv (a::q) (some x) (zO hs hds a) t with
  |none=>rw[e2] at h;cases h
  |some t'=>
   rw[e2] at h
   by_cases hb:zdj (zw (x::a::q) t' (zO hs lks x))=true
   ·simp only[if_pos hb] at h;cases h
   ·simp only[if_neg hb] at h
    cases h
    exact⟨rfl,by simpa using hb⟩
structure Kn(H0 H:Hp)(kd:Addr)(g:Str)(hs:List Str)(ps:List (Str×Str))(lks hds:List D)(ls:List Addr)(W:Str->List (List Str)):Prop where
 d:H kd=some (.dK (zaP hs (ls.map V.ref)))
 gl:GL zb0 H0 H hs ls W
 due:∀x∈hs,Due g hs ps lks hds x (W x)
theorem Kn.same{H0 H H':Hp}{kd:Addr}{g:Str}{hs:List Str}{ps:List (Str×Str)}{lks hds:List D}{ls:List Addr}{W:Str->List (List Str)}(k:Kn H0 H kd g hs ps lks hds ls W)(s:Same H H'):Kn H0 H' kd g hs ps lks hds ls W:=
 ⟨s _ _ k.d,k.gl.mono (λc us e=>s _ _ e) λb a e=>s _ _ e,k.due⟩
theorem Kn.get{H0 H:Hp}{kd:Addr}{g:Str}{hs:List Str}{ps:List (Str×Str)}{lks hds:List D}{ls:List Addr}{W:Str->List (List Str)}(k:Kn H0 H kd g hs ps lks hds ls W)(T:TownOk g hs ps lks hds)(sp:zbT ps){x:Str}(hx:x∈hs):∃l us,DGet H kd (.str x) (some (.ref l))/\H l=some (.lst us)/\AtG zb0 H us (W x)/\WsOk (W x)/\Tr H (.ref l) (zbX (W x)):=by
 obtain⟨l,us,ev,eu,au,tr⟩:=k.gl.tr T.hs_nd hx (zdU T sp (k.due x hx))
 refine⟨l,us,?_,eu,au,zdU T sp (k.due x hx),tr⟩
 have:=DGet.k (k:=Sum.inr x) k.d
 rw[ev] at this;exact this
def zg6:Sp:=λvs H Q _=>∃(v:V) (kd pw:Addr) (x:Str) (r m:List Str) (ls:List Addr) (W:Str->List (List Str)) (H0:Hp) (g:Str) (hs:List Str) (ps:List (Str×Str)) (lks hds:List D) (O:List Str),vs=[v, .ref kd, .ref pw]/\Rep H v (zaB g hs ps lks hds)/\TownOk g hs ps lks hds/\Pool hs lks hds O/\zbT ps/\Kn H0 H kd g hs ps lks hds ls W/\H pw=some (.tup ((x::r).map V.str))/\SW g ps (x::r)/\zk hs lks hds (x::r)=some m/\∀H',Same H H'->Q (.bl true) H'
theorem zjK(Y:Ev K mg):FnOk P w K mg base CX0 8 Y.a__law_pieced Y.d__law_pieced zaS zg6:=by
 have G_marks_of:FnOk P w K mg base CX0 7 Y.a_marks_of Y.d_marks_of zay zcd:=zb7 Y
 have G_worth:FnOk P w K mg base CX0 5 Y.a_worth Y.d_worth zcr zeo:=zeE Y
 have G_handed:FnOk P w K mg base CX0 5 Y.a_handed Y.d_handed zcf zez:=zfJ Y
 refine Y._law_pieced.fn.okQ c__law_pieced (λvs H Q E h=>?_) (λcdv A outer s H vs Q E hr h=>?_)
 ·obtain ⟨v,kd,pw,x,r,m,ls,W,H0,g,hs,ps,lks,hds,O,rfl,_⟩:=h;rfl
 ·obtain ⟨v,kd,pw,x,r,m,ls,W,H0,g,hs,ps,lks,hds,O,rfl,hv,T,PO,sp,kn,hpw,sw,eM,q⟩:=h
  have tin:∀p∈ps,p.1∈hs/\p.2∈hs:=λp hp=>⟨(T.ties p hp).1,(T.ties p hp).2.1⟩
  have wm:=SW.mem T.goal tin sw
  have w10:(x::r).length<=10:=Nat.le_trans (zV sw.nd wm) T.ten
  have MR:=zbA T PO wm eM
  have nmM:∀y∈m,zh y=true:=λy hy=>PO.nm y (MR.mem y hy)
  refine⟨_,(zg (zB 3 c__law_pieced.nd (zj G_marks_of (hr.mono (by decide)) Y.marks_of.mg Y.marks_of.kp Y.marks_of.b .nil zo (za (qv 0) (za (qv 2) zc))))
   (zg (zas (zI zak (zz z8 Y.len zbs (za (qv 2) zc)) zf) (zm (zx (zb5 (zhV (zei hr)) (qv 3) (zD zc)))) zS)
   (zg (zB 4 c__law_pieced.nd (zc3 zaH (qv 2) (zaO zf) zaQ))
   (zg (zas (t_w (zmQ (zI (zoy (zei hr)) (qv 4) (zca (hu1 hr) (qv 1) (zT ix_tup (qv 4) zf))) (ziC (zI zeC (zj G_worth (hr.mono (by decide)) Y.worth.mg Y.worth.kp Y.worth.b .nil zo (za (qv 0) (za (qv 2) (za (qv 3) zc)))) zcz)))) (zm (zx zcb)) zS)
   (zm (zx (zb5 (zhV (zei hr)) (qv 3) (zj G_handed (hr.mono (by decide)) Y.handed.mg Y.handed.kp Y.handed.b .nil zo (za (qv 0) (za (qv 4) (za (zj G_marks_of (hr.mono (by decide)) Y.marks_of.mg Y.marks_of.kp Y.marks_of.b .nil zo (za (qv 0) (za (qv 4) zc))) (za (zT ix_tup (qv 2) zf) zc)))))))))))),?_⟩
  refine⟨_,rfl,_,rfl,v,pw,x::r,g,hs,ps,lks,hds,O,rfl,hv,T,PO,wm,hpw,Nat.le_add_left 1 _,by omega,λu H1 tu s1=>?_⟩
  rw[eM] at tu
  obtain⟨pm,rfl,hpm⟩:=tu
  have hpw1:=s1 _ _ hpw
  have trM:∀{H':Hp},Same H1 H'->Tr H' (.ref pm) (.tuple (zq m)):=λs=>zap (s _ _ hpm) λy hy=>zP (nmM y hy)
  refine⟨_,rfl, .inl ⟨pw,_,rfl, .inr (.inl (.inl hpw1)),rfl,_,rfl,zbS (λhc=>?_) (λhc=>?_)⟩⟩
  ·have r0:r=[]:=by
    cases r with
    |nil=>rfl
    |cons a b=>exfalso;simp at hc;omega
   subst r0
   rw[zk] at eM
   cases eM
   refine⟨_,rfl,few rfl,λpe hpe=>?_⟩
   have S:=Same.new (o:= .tup []) hpe
   refine⟨.tuple (zq []), .tuple (zq []),trM S,zap zb λy hy=>(nomatch hy),Nat.le_trans (Nat.min_le_left _ _) zau,?_⟩
   rw[zbQ,decide_eq_true rfl]
   exact q _ (s1.trans S)
  ·cases r with
   |nil=>exact absurd rfl hc
   |cons a b=>
    obtain⟨t,et,eh,ew⟩:=zhA eM
    obtain⟨sw2,nx,tie⟩:=sw.tail
    have ha:a∈hs:=wm a (List.mem_cons_of_mem _ List.mem_cons_self)
    have am:∀z∈a::b,z∈hs:=λz hz=>wm z (List.mem_cons_of_mem _ hz)
    have MT:=zbA T PO am et
    have l11:(a::b).length+1<=10:=w10
    have lab:b.length+2<=10:=w10
    have ec:zaY ((x::a::b).map V.str) (some 1) none=(a::b).map V.str:=zby (xs:=(x::a::b).map V.str) (m:=1)
    refine⟨_,rfl,_,rfl,pw,_,rfl, .inl (.inl hpw1),λz=>?_,λp2 hp2=>?_⟩
    ·rw[ec] at z
     have:=congrArg List.length z
     simp at this
    rw[ec]
    have S2:=Same.new (o:= .tup ((a::b).map V.str)) hp2
    have e2:=zb (H:=H1) (a:=p2) (o:= .tup ((a::b).map V.str))
    generalize (upd H1 p2 (.tup ((a::b).map V.str)))=H2 at *
    have s02:=s1.trans S2
    obtain⟨l,us,dg,eu,au,wk,tr⟩:=(kn.same s02).get T sp ha
    refine⟨_,rfl,_,rfl,_,rfl,p2,_,0,_,rfl,rfl, .inl (.inl e2),at0,kd,_,rfl,dg, .tuple (zq (a::b)),_,zap e2 λy hy=>zP (T.names y (am y hy)), .inl tr,zau,?_⟩
    rw[zkV,decide_eq_true (zlR (kn.due a ha) sw2 et)]
    refine⟨_,rfl,zbC rfl ?_⟩
    obtain⟨j,rs,hj,hlj,er⟩:=zgQ T (wm x List.mem_cons_self)
    refine⟨_,rfl,_,rfl,_,rfl,v,pw,pm,x,a::b,m,g,hs,ps,lks,hds,j,rs,rfl,hv.same s02,T,hj,hlj,s02 _ _ hpw,S2 _ _ hpm,λy hy=>T.names y (wm y hy),nmM,by omega,Nat.le_trans (MR.toMk.len PO.few) (by decide),λu3 H3 r3 s3=>?_⟩
    refine⟨rfl,_,rfl,?_⟩
    rw[ziQ r3,←er,ew]
    refine zbC rfl ?_
    have s03:=s02.trans s3
    refine⟨_,rfl,_,rfl,_,rfl,_,rfl,_,rfl,v,p2,a::b,g,hs,ps,lks,hds,O,rfl,hv.same s03,T,PO,am,s3 _ _ e2,Nat.le_add_left 1 _,by omega,λu4 H4 t4 s4=>?_⟩
    rw[et] at t4
    obtain⟨pt,rfl,hpt⟩:=t4
    have s04:=s03.trans s4
    obtain⟨j2,rs2,hj2,hdj2,er2,hk⟩:=zk9 T PO ha
    refine⟨_,rfl,pw,_,0,_,rfl,rfl, .inl (.inl (s04 _ _ hpw)),at0,v,p2,pt, .str x,a,b,t,some x,g,hs,ps,lks,hds,j2,rs2,O,rfl,hv.same s04,T,hj2,hdj2,hk,PO.few,PO.nm,MT.toMk,s4 _ _ (s3 _ _ e2),hpt, .inr ⟨x,rfl,rfl,T.names x (wm x List.mem_cons_self)⟩,λy hy=>T.names y (am y hy),by omega,λu5 H5 t5 s5=>?_⟩
    rw[←er2,eh] at t5
    obtain⟨p5,rfl,hp5⟩:=t5
    refine⟨.tuple (zq m), .tuple (zq m),trM ((S2.trans s3).trans (s4.trans s5)),zap hp5 λy hy=>zP (nmM y hy),Nat.le_trans (Nat.min_le_left _ _) zau,?_⟩
    rw[zbQ,decide_eq_true rfl]
    exact q _ (s04.trans s5)
end
section
variable{P:Program}{w:World}{K:PySem.W.Frag}{mg:Str->Option Value}{base:Heap}
def zbH(ps:List (Str×Str))(t:Str×Str):List (Str×Str):=ps.filter λp=>decide (p≠t)
theorem mem_less{ps:List (Str×Str)}{t p:Str×Str}:p∈zbH ps t↔p∈ps/\p≠t:=by
 unfold zbH
 rw[List.mem_filter,decide_eq_true_iff]
theorem sw_less{g:Str}{ps:List (Str×Str)}{t:Str×Str}{w:List Str}:SW g (zbH ps t) w↔SW g ps w/\t∉ed mmS w:=
 ⟨λh=>⟨⟨h.nd,h.last,λp hp=>(mem_less.mp (h.ties p hp)).1⟩,λz=>(mem_less.mp (h.ties t z)).2 rfl⟩,λ⟨h,n⟩=>⟨h.nd,h.last,λp hp=>mem_less.mpr ⟨h.ties p hp,λz=>n (z▸hp)⟩⟩⟩
theorem zkG{g:Str}{hs:List Str}{ps:List (Str×Str)}{lks hds:List D}{x:Str}{ws:List (List Str)}{t:Str×Str}(h:Due g hs ps lks hds x ws):Due g hs (zbH ps t) lks hds x (ws.filter λw=>!decide (t∈ed mmS w)):=by
 rcases h with⟨rfl,rfl⟩|⟨hx,ks,pw,mem,rfl⟩
 ·refine .inl ⟨rfl,?_⟩
  rw[List.filter_cons_of_pos (by simp[ed]),List.filter_nil]
 ·refine .inr ⟨hx,ks.filter (λk=>!decide (t∈ed mmS k.2.2)),pw.sublist List.filter_sublist,λk=>?_,?_⟩
  ·rw[List.mem_filter,mem]
   constructor
   ·rintro ⟨⟨r,m,rfl,s,e⟩,hn⟩
    have hn:(!decide (t∈ed mmS (x::r)))=true:=hn
    exact⟨r,m,rfl,sw_less.mpr ⟨s,by simpa using hn⟩,e⟩
   ·rintro ⟨r,m,rfl,s,e⟩
    obtain⟨s1,s2⟩:=sw_less.mp s
    exact⟨⟨r,m,rfl,s1,e⟩,by show(!decide (t∈ed mmS (x::r)))=true;simpa using s2⟩
  ·rw[List.filter_map];rfl
theorem zc1{g:Str}{hs:List Str}{ps:List (Str×Str)}{lks hds:List D}(T:TownOk g hs ps lks hds)(t:Str×Str):TownOk g hs (zbH ps t) lks hds:=
 {T with riseP:=T.riseP.sublist List.filter_sublist,ties:=λp hp=>T.ties p (mem_less.mp hp).1}
theorem zcE{ps:List (Str×Str)}(h:zbT ps)(t:Str×Str):zbT (zbH ps t):=by
 obtain⟨xs,k,nx,h⟩:=h
 exact⟨xs,k,nx,h.mono (λp hp=>(mem_less.mp hp).1) (Nat.le_refl _) (Nat.le_refl _)⟩
end
section
variable{P:Program}{w:World}{K:PySem.W.Frag}{mg:Str->Option Value}{base:Heap}
theorem zna{H:Hp}{v:V}{p:Str×Str}(h:Rep H v (RW.pairD p))(h1:zh p.1=true)(h2:zh p.2=true):Tr H v (.tuple (zq [p.1,p.2])):=by
 obtain⟨a,rfl,ha⟩:=zcN (xs:=[p.1,p.2]) h
 exact zap ha λx hx=>by
  rcases List.mem_cons.mp hx with rfl|hx
  ·exact zP h1
  ·rw[List.mem_singleton.mp hx];exact zP h2
theorem ze5{p q:Str×Str}:(PyData.tuple (zq [p.1,p.2])).eqv (.tuple (zq [q.1,q.2]))=decide (p=q):=by
 rw[zbQ]
 by_cases h:p=q
 ·subst h;rw[decide_eq_true rfl,decide_eq_true rfl]
 ·rw[decide_eq_false h,decide_eq_false]
  intro z
  injection z with z1 z2
  injection z2 with z2 _
  exact h (Prod.ext z1 z2)
def zfk:Sp:=λvs H Q _=>∃(v:V) (pt:Addr) (t:Str×Str) (g:Str) (hs:List Str) (ps:List (Str×Str)) (lks hds:List D),vs=[v, .ref pt]/\Rep H v (zaB g hs ps lks hds)/\TownOk g hs ps lks hds/\ps.length<=1000/\H pt=some (.tup [.str t.1, .str t.2])/\zh t.1=true/\zh t.2=true/\∀(u:V) (H':Hp),Rep H' u (zaB g hs (zbH ps t) lks hds)->Same H H'->Q u H'
theorem zhY(Y:Ev K mg):FnOk P w K mg base CX0 1 Y.a__law_without Y.d__law_without zaA zfk:=by
 refine Y._law_without.fn.okQ zeA (λvs H Q E h=>?_) (λcdv A outer s H vs Q E hr h=>?_)
 ·obtain ⟨v,pt,t,g,hs,ps,lks,hds,rfl,_⟩:=h;rfl
 ·obtain ⟨v,tp,t,g,hs,ps,lks,hds,rfl,hv,T,p100,htp,nt1,nt2,q⟩:=h
  have hv':=hv
  obtain⟨p,pr,pt,pl,pa,vt,vl,va,rfl,hp,hpr,hpt,rt,hpl,rl,hpa,ra⟩:=zbv hv'
  have T10:=T.ten
  have lvt:vt.length=ps.length:=by have:=rt.1;rwa[List.length_map] at this
  refine⟨_,(zm (zx (zJ zbt (zJ zbt (zc3 zaH (qv 0) zaQ (zaO zf)) (zD (za (zX zG Y.tuple zax (za (zaT (src:=[none,some 1]) o__law_without_1 rfl rfl (zbY (zT ix_tup (qv 0) zf)) (λ_ _ _ _ _=>(zt 0 o__law_without_1.nd)) (λ_ _ _ _ _=>(zhr (zI (ze3 (zei hr)) (qv 0) (qc 1)))) (λ_ _ _ _ _=>(qv 0))) zc)) zc))) (zc3 zaH (qv 0) (zaO zf) zaQ)))),?_⟩
  have ecut:zaY [V.str g,V.ref pr,V.ref pt,V.ref pl,V.ref pa] none (some 2)=[V.str g,V.ref pr]:=za8 (n:=2)
  have ecut2:zaY [V.str g,V.ref pr,V.ref pt,V.ref pl,V.ref pa] (some 3) none=[V.ref pl,V.ref pa]:=zby (m:=3)
  refine⟨_,rfl,_,rfl,p,_,rfl, .inl (.inl hp),λz=>?_,λp1 hp1=>?_⟩
  ·rw[ecut] at z;cases z
  rw[ecut]
  have S1:=Same.new (o:= .tup [V.str g,V.ref pr]) hp1
  have e1:=zb (H:=H) (a:=p1) (o:= .tup [V.str g,V.ref pr])
  generalize (upd H p1 (HO.tup [V.str g,V.ref pr]))=H1 at *
  refine⟨_,rfl,p,_,2,_,rfl,rfl, .inl (.inl (S1 _ _ hp)),zU (j:=2) rfl,pt,rfl,⟨_, .inl (.inl (S1 _ _ hpt))⟩,?_⟩
  refine zba (zaU (K:=K) (xs:=vt)) (λl i ys σ' H'=>(∃o,σ'=[o,some (.ref tp)])/\RepL H' ys ((zbH (ps.take i) t).map RW.pairD)/\Same H1 H') ?_ (λl i ys σ' H' hl z=> .inl (.inl (z.2.2 _ _ (S1 _ _ hpt)))) ?_ ?_
  ·exact λl hl=>⟨⟨_,rfl⟩,RepL.nil,Same.new hl⟩
  ·rintro l i v0 ys σ' H2 hl' hi hv0 ⟨⟨o,rfl⟩,r2,s2⟩ hl2
   have hi':i<ps.length:=by omega
   have ep:ps[i]?=some ps[i]:=List.getElem?_eq_getElem hi'
   have rp:=(rt.2 i v0 (RW.pairD ps[i]) hv0 (by rw[List.getElem?_map,ep];rfl)).same (S1.trans s2)
   have pm:=T.ties _ (List.getElem_mem hi')
   have tk:zbH (ps.take (i+1)) t=zbH (ps.take i) t ++(if ps[i]≠t then [ps[i]] else []):=by
    unfold zbH
    rw[List.take_add_one,ep,List.filter_append]
    show _ ++List.filter _ [ps[i]]=_
    rw[List.filter_cons,List.filter_nil]
    by_cases h:ps[i]=t
    ·rw[if_neg (by simp[h]),if_neg (by simp[h])]
    ·rw[if_pos (by simp[h]),if_pos h]
   generalize ps[i]=pp at *
   have ly:ys.length<=1000:=by
    rw[r2.1,List.length_map]
    unfold zbH
    refine Nat.le_trans (List.length_filter_le _ _) ?_
    rw[List.length_take];omega
   have tr1:=zna rp (T.names _ pm.1) (T.names _ pm.2.1)
   have tr2:Tr H2 (.ref tp) (.tuple (zq [t.1,t.2])):=zap (s2 _ _ (S1 _ _ htp)) λx hx=>by
    rcases List.mem_cons.mp hx with rfl|hx
    ·exact zP nt1
    ·rw[List.mem_singleton.mp hx];exact zP nt2
   refine⟨_,rfl,_,rfl,_,_,tr1,tr2,Nat.le_trans (Nat.min_le_left _ _) zau,_,rfl,?_⟩
   rw[ze5]
   by_cases h:pp=t
   ·rw[decide_eq_true h]
    refine zbC rfl ⟨hl2,⟨_,rfl⟩,?_,s2⟩
    rw[tk,if_neg (by simp[h]),List.append_nil]
    exact r2
   ·rw[decide_eq_false h]
    refine zc6 rfl ⟨_,rfl,hl2,zn (by omega),⟨_,rfl⟩,?_,λb o e=>by rw[ze (zi e hl')];exact s2 b o e⟩
    rw[tk,if_pos h,List.map_append]
    exact RepL.mono (.append r2 (.cons rp .nil)) (.lset hl2)
  rintro l ys σ' H2 hl' ⟨⟨o,rfl⟩,r2,s2⟩ hl2
  rw[lvt,List.take_length] at r2
  refine⟨l,ys,rfl, .inl ⟨SqL.of hl2,λp3 hp3=>⟨few rfl,λp4 hp4=>?_⟩⟩⟩
  have S3:=Same.new (o:= .tup ys) hp3
  have e3:=zb (H:=H2) (a:=p3) (o:= .tup ys)
  have S4:=Same.new (o:= .tup [V.ref p3]) hp4
  have e4:=zb (H:=upd H2 p3 (.tup ys)) (a:=p4) (o:= .tup [V.ref p3])
  have e3':=S4 _ _ e3
  have s14:=s2.trans (S3.trans S4)
  have r4:=r2.mono (.of (S3.trans S4))
  generalize (upd (upd H2 p3 (.tup ys)) p4 (.tup [V.ref p3]))=H4 at *
  have e1':=s14 _ _ e1
  refine⟨p1,p4,_,_,rfl,rfl, .inl (.inl e1'), .inl (.inl e4),Nat.le_of_ble_eq_true rfl,(λz=>nomatch z),(λ_ z=>nomatch z),λ_ _ p5 hp5=>?_⟩
  have S5:=Same.new (o:= .tup ([V.str g,V.ref pr]++ [V.ref p3])) hp5
  have e5:=zb (H:=H4) (a:=p5) (o:= .tup ([V.str g,V.ref pr]++ [V.ref p3]))
  have s05:=(S1.trans s14).trans S5
  have r5:=r4.mono (.of S5)
  have e35:=S5 _ _ e3'
  generalize (upd H4 p5 (.tup ([V.str g,V.ref pr]++ [V.ref p3])))=H5 at *
  refine⟨_,rfl,_,rfl,p,_,rfl, .inl (.inl (s05 _ _ hp)),λz=>?_,λp6 hp6=>?_⟩
  ·rw[ecut2] at z;cases z
  rw[ecut2]
  have S6:=Same.new (o:= .tup [V.ref pl,V.ref pa]) hp6
  refine⟨p5,p6,_,_,rfl,rfl, .inl (.inl (S6 _ _ e5)), .inl (.inl zb),Nat.le_of_ble_eq_true rfl,(λz=>nomatch z),(λ_ z=>nomatch z),λ_ _ p7 hp7=>?_⟩
  have S7:=Same.new (o:= .tup ([V.str g,V.ref pr]++ [V.ref p3]++ [V.ref pl,V.ref pa])) hp7
  have s07:=s05.trans (S6.trans S7)
  have s57:=S6.trans S7
  refine q _ _ ?_ s07
  have lys:((zbH ps t).map RW.pairD).length<=1000:=by
   rw[List.length_map]
   unfold zbH
   exact Nat.le_trans (List.length_filter_le _ _) (by omega)
  refine Rep.mkL (vs:=[V.str g,V.ref pr,V.ref p3,V.ref pl,V.ref pa]) zb (Nat.le_of_ble_eq_true rfl) ?_
  refine .cons (.str _ (zC (T.names _ T.goal))) (.cons (.mkL (s07 _ _ hpr) (by rw[List.length_map];omega) (zbZ λy hy=>zC (T.names y hy))) (.cons (.mkL (s57 _ _ e35) lys (r5.mono (.of s57))) (.cons (.mkL (s07 _ _ hpl) (by rw[T.ll];omega) (rl.mono (.of s07))) (.cons (.mkL (s07 _ _ hpa) (by rw[T.lh];omega) (ra.mono (.of s07))) .nil))))
end
section
variable{P:Program}{w:World}{K:PySem.W.Frag}{mg:Str->Option Value}{base:Heap}
def zi6:Sp:=λvs H Q _=>∃(v:V) (l:Addr) (us:List V) (ws:List (List Str)) (x:Str) (g:Str) (hs:List Str) (ps:List (Str×Str)) (lks hds:List D) (O:List Str),vs=[v, .ref l]/\Rep H v (zaB g hs ps lks hds)/\TownOk g hs ps lks hds/\Pool hs lks hds O/\zbT ps/\H l=some (.lst us)/\AtG zb0 H us ws/\Due g hs ps lks hds x ws/\x∈hs/\∀H',Same H H'->Q (.bl true) H'
theorem zcG{g:Str}{hs:List Str}{ps:List (Str×Str)}{lks hds:List D}{x:Str}{ws:List (List Str)}(h:Due g hs ps lks hds x ws):∀w∈ws,∃r m,w=x::r/\SW g ps (x::r)/\zk hs lks hds (x::r)=some m:=by
 rcases h with⟨rfl,rfl⟩|⟨hx,ks,pw,mem,rfl⟩
 ·intro w hw
  rw[List.mem_singleton.mp hw]
  exact⟨[],[],rfl,SW.goal,rfl⟩
 ·intro w hw
  obtain⟨k,hk,rfl⟩:=List.mem_map.mp hw
  obtain⟨r,m,rfl,s1,e⟩:=(mem k).mp hk
  exact⟨r,m,rfl,s1,e⟩
theorem zlm{g:Str}{hs:List Str}{ps:List (Str×Str)}{lks hds:List D}{x:Str}{ws:List (List Str)}(h:Due g hs ps lks hds x ws)(hx:x≠g){i:Nat}{w w':List Str}(e:ws[i]?=some w)(e':ws[i+1]?=some w'):∃r m r' m',w=x::r/\w'=x::r'/\SW g ps (x::r)/\SW g ps (x::r')/\zk hs lks hds (x::r)=some m/\zk hs lks hds (x::r')=some m'/\ltK (kE (zO hs lks x) (x::r,m)) (kE (zO hs lks x) (x::r',m'))=true:=by
 rcases h with⟨z,_⟩|⟨_,ks,pw,mem,rfl⟩
 ·exact absurd z hx
 ·rw[List.getElem?_map] at e e'
  obtain⟨k,ek,rfl⟩:=Option.map_eq_some_iff.mp e
  obtain⟨k',ek',rfl⟩:=Option.map_eq_some_iff.mp e'
  obtain⟨hi,ei⟩:=List.getElem?_eq_some_iff.mp ek
  obtain⟨hi',ei'⟩:=List.getElem?_eq_some_iff.mp ek'
  have lt:=List.pairwise_iff_getElem.mp pw i (i+1) hi hi' (Nat.lt_succ_self i)
  rw[ei,ei'] at lt
  obtain⟨r,m,rfl,s1,e1⟩:=(mem k).mp (List.mem_of_getElem? ek)
  obtain⟨r',m',rfl,s2,e2⟩:=(mem k').mp (List.mem_of_getElem? ek')
  exact⟨r,m,r',m',rfl,rfl,s1,s2,e1,e2,lt⟩
theorem zkN(Y:Ev K mg):FnOk P w K mg base CX0 8 Y.a__law_falls Y.d__law_falls za7 zi6:=by
 have G_marks_of:FnOk P w K mg base CX0 7 Y.a_marks_of Y.d_marks_of zay zcd:=zb7 Y
 have G_likes_more:FnOk P w K mg base CX0 7 Y.a_likes_more Y.d_likes_more zbj ziz:=zff Y
 refine Y._law_falls.fn.okQ c__law_falls (λvs H Q E h=>?_) (λcdv A outer s H vs Q E hr h=>?_)
 ·obtain ⟨v,l,us,ws,x,g,hs,ps,lks,hds,O,rfl,_⟩:=h;rfl
 ·obtain ⟨v,l,us,ws,x,g,hs,ps,lks,hds,O,rfl,hv,T,PO,sp,el,al,due,hx,q⟩:=h
  have hv':=hv
  obtain⟨p,pr,pt,pl,pa,vt,vl,va,rfl,hp,hpr,_⟩:=zbv hv'
  have tin:∀p∈ps,p.1∈hs/\p.2∈hs:=λp hp=>⟨(T.ties p hp).1,(T.ties p hp).2.1⟩
  have wk:=zdU T sp due
  refine⟨_,(ziP (zas (t_w (zpn (zI (ze3 (zei hr)) (qv 1) (zbN zc)) (zow (zI zak (zT ix_tup (zT ix_list (qv 1) zf) zf) (zT ix_tup (qv 0) zf))))) (zm (zx (zb5 (zhV (zei hr)) (qv 1) (zbN (za (zD (za (zT ix_tup (qv 0) zf) zc)) zc))))) zS)
   (zg (zbx PassesOwn.never rfl (zpj Y.zip (za (qv 1) (za (zc3 zgx (qv 1) (zaO zf) zaQ) zc))) (zda 2 rfl (zH (zt 2 c__law_falls.nd) (zH (zt 3 c__law_falls.nd) zbK))) (zg (zhF 4 5 c__law_falls.nd (za (zD (za (qv 2) (za (zj G_marks_of (hr.mono (by decide)) Y.marks_of.mg Y.marks_of.kp Y.marks_of.b .nil zo (za (qv 0) (za (qv 2) zc))) zc))) (za (zD (za (qv 3) (za (zj G_marks_of (hr.mono (by decide)) Y.marks_of.mg Y.marks_of.kp Y.marks_of.b .nil zo (za (qv 0) (za (qv 3) zc))) zc))) zc)))
   (zm (zas (t_w (zmQ (zI zfD (zj G_likes_more (hr.mono (by decide)) Y.likes_more.mg Y.likes_more.kp Y.likes_more.b .nil zo (za (qv 0) (za (qv 4) (za (qv 5) zc)))) zcb) (ziC (zI zfD (zj G_likes_more (hr.mono (by decide)) Y.likes_more.mg Y.likes_more.kp Y.likes_more.b .nil zo (za (qv 0) (za (qv 5) (za (qv 4) zc)))) zcb)))) (zm (zx zcb)) zS))))
   (zm (zx zcb)))),?_⟩
  refine⟨λσ' H'=>σ'=[some (.ref p),some (.ref l),none,none,none,none]/\(x≠g\/ws=[])/\Same H H',?_,?_⟩
  ·refine ⟨_,rfl,few rfl,λpe hpe=>?_⟩
   have S1:=Same.new (o:= .lst []) hpe
   have ee:=zb (H:=H) (a:=pe) (o:= .lst [])
   generalize (upd H pe (.lst []))=H1 at *
   have el1:=S1 _ _ el
   have al1:AtG zb0 H1 us ws:=AtG.mono al λb a e=>S1 _ _ e
   have tr0:Tr H1 (.ref pe) (.list []):= .lst ee rfl λi v d e=>by cases e
   refine⟨zbX ws, .list [],zdr el1 al1 wk,tr0,Nat.le_trans (Nat.min_le_left _ _) (zdx wk).2.1,?_⟩
   have eqv:(zbX ws).eqv (.list [])=decide (ws=[]):=by
    unfold zbX
    rw[PyData.eqv]
    cases ws with
    |nil=>rw[List.map_nil,PyData.eqvAll];rfl
    |cons d ds=>rw[List.map_cons,PyData.eqvAll];rfl
   rw[eqv]
   by_cases hw:ws=[]
   ·rw[decide_eq_true hw]
    exact⟨_,rfl,zbC rfl ⟨rfl, .inr hw,S1⟩⟩
   ·rw[decide_eq_false hw]
    refine⟨_,rfl,zc6 rfl ?_⟩
    obtain⟨w0,ws',ews⟩:∃w0 ws',ws=w0::ws':=by
     cases ws with
     |nil=>exact absurd rfl hw
     |cons a b=>exact ⟨a,b,rfl⟩
    obtain⟨u0,us',eus⟩:∃u0 us',us=u0::us':=by
     cases us with
     |nil=>rw[ews] at al;exact absurd al.1 (by simp)
     |cons a b=>exact ⟨a,b,rfl⟩
    obtain⟨b0,eb,ob⟩:=al1.2 0 u0 w0 (by rw[eus];rfl) (by rw[ews];rfl)
    subst eb
    obtain⟨r0,m0,e0,_,_⟩:=zcG due w0 (by rw[ews];exact List.mem_cons_self)
    subst e0
    have ob:H1 b0=some (.tup ((x::r0).map V.str)):=ob
    refine⟨_,rfl,l,us,0, .ref b0,rfl,rfl,SqL.of el1,by rw[eus];exact at0,b0,_,0,_,rfl,rfl, .inl (.inl ob),at0,_,rfl,p,_,0,_,rfl,rfl, .inl (.inl (S1 _ _ hp)),at0,rfl,_,rfl,zbS (λhc=>?_) (λhc=>?_)⟩
    ·have eg:x=g:=by simpa using hc
     have ew:ws=[[g]]:=by
      rcases due with⟨_,z⟩|⟨z,_⟩
      ·exact z
      ·exact absurd eg z
     refine⟨_,rfl,_,rfl,p,_,0,_,rfl,rfl, .inl (.inl (S1 _ _ hp)),at0,few rfl,λp1 hp1=>⟨few rfl,λl1 hl1=>?_⟩⟩
     have S2:=Same.new (o:= .tup [V.str g]) hp1
     have S3:=Same.new (o:= .lst [V.ref p1]) hl1
     have s03:=S1.trans (S2.trans S3)
     have tr:=zdr (s03 _ _ el) (AtG.mono al λb a e=>s03 _ _ e) wk
     have tr':=zdr (ws:=[[g]]) (us:=[V.ref p1]) (zb (H:=upd H1 p1 (.tup [V.str g])) (a:=l1) (o:= .lst [V.ref p1])) ⟨rfl,λk v w h1 h2=>by
      cases k with
      |zero=>cases h1;cases h2;exact⟨p1,rfl,S3 _ _ zb⟩
      |succ k=>cases h1⟩ (by rw[←ew];exact wk)
     refine⟨zbX ws,zbX [[g]],tr,tr',Nat.le_trans (Nat.min_le_left _ _) (zdx wk).2.1,?_⟩
     rw[←ew,SeqAt.eqv_refl _ tr.can]
     exact q _ s03
    ·exact ⟨rfl, .inl λz=>hc (by simp[z]),S1⟩
  ·rintro σ' H1 ⟨rfl,hor,s1⟩
   have el1:=s1 _ _ el
   have al1:AtG zb0 H1 us ws:=AtG.mono al λb a e=>s1 _ _ e
   refine⟨_,rfl,_,rfl,_,rfl,l,us,rfl,SqL.of el1,λp2 hp2=>?_⟩
   have ec:zaY us (some 1) none=us.drop 1:=zby (xs:=us) (m:=1)
   rw[ec]
   have S2:=Same.new (o:= .lst (us.drop 1)) hp2
   have e2:=zb (H:=H1) (a:=p2) (o:= .lst (us.drop 1))
   generalize (upd H1 p2 (.lst (us.drop 1)))=H2 at *
   have s02:=s1.trans S2
   have el2:=S2 _ _ el1
   refine⟨l,p2,false,false,us,us.drop 1,rfl,el2,e2,?_⟩
   have eN:min us.length (us.drop 1).length=us.length -1:=by rw[List.length_drop];omega
   rw[eN]
   refine zfY (n:=us.length -1) (λi σ' H'=>(∃o2 o3 o4 o5,σ'=[some (.ref p),some (.ref l),o2,o3,o4,o5])/\Same H2 H') ⟨⟨_,_,_,_,rfl⟩,Same.refl _⟩ (λi σ' H' hi z=>?_) (λσ' H' z=>⟨us,us.drop 1,z.2 _ _ el2,z.2 _ _ e2,eN,Nat.le_refl _⟩) ?_ ?_
   ·have h1:i<us.length:=by omega
    have h2:i+1<us.length:=by omega
    exact⟨us,us.drop 1,us[i],us[i+1],z.2 _ _ el2,z.2 _ _ e2,eN,List.getElem?_eq_getElem h1,by rw[List.getElem?_drop,Nat.add_comm];exact List.getElem?_eq_getElem h2⟩
   ·rintro i y0 σ' H3 H4 hi ⟨⟨o2,o3,o4,o5,rfl⟩,s3⟩ ⟨Tt,xs',ys',u,v',hx',hy',rfl,hT,hu,hv2,rfl⟩
    have ex:xs'=us:=SqZ.inj (t:=false) hx' (s3 _ _ el2)
    have ey:ys'=us.drop 1:=SqZ.inj (t:=false) hy' (s3 _ _ e2)
    subst ex ey
    rw[List.getElem?_drop,Nat.add_comm] at hv2
    have lw:xs'.length=ws.length:=al1.1
    have h1:i<ws.length:=by omega
    have h2:i+1<ws.length:=by omega
    have hxg:x≠g:=by
     rcases hor with z|z
     ·exact z
     ·rw[z] at h1;cases h1
    obtain⟨r,m,r',m',ew,ew',sw,sw',eM,eM',lt⟩:=zlm due hxg (List.getElem?_eq_getElem h1) (List.getElem?_eq_getElem h2)
    obtain⟨b1,eb1,ob1⟩:=al1.2 i u ws[i] hu (List.getElem?_eq_getElem h1)
    obtain⟨b2,eb2,ob2⟩:=al1.2 (i+1) v' ws[i+1] hv2 (List.getElem?_eq_getElem h2)
    subst eb1 eb2
    rw[ew] at ob1
    rw[ew'] at ob2
    have ob1:H1 b1=some (.tup ((x::r).map V.str)):=ob1
    have ob2:H1 b2=some (.tup ((x::r').map V.str)):=ob2
    have ST:=Same.new (o:= .tup [V.ref b1,V.ref b2]) hT
    have s24:=s3.trans ST
    have s04:=s02.trans s24
    have w1:=S2.trans s24 _ _ ob1
    have w2:=S2.trans s24 _ _ ob2
    refine⟨Tt,_,rfl, .inl (.inl zb),rfl,_,_,rfl,_,_,rfl,rfl,?_⟩
    generalize (upd H3 Tt (HO.tup [V.ref b1,V.ref b2]))=H4 at *
    have wm:=SW.mem T.goal tin sw
    have wm':=SW.mem T.goal tin sw'
    have w10:(x::r).length<=10:=Nat.le_trans (zV sw.nd wm) T.ten
    have w10':(x::r').length<=10:=Nat.le_trans (zV sw'.nd wm') T.ten
    have E1:=zgC T PO sw hxg eM
    have E2:=zgC T PO sw' hxg eM'
    refine⟨_,rfl,_,rfl,_,rfl, .ref p,b1,x::r,g,hs,ps,lks,hds,O,rfl,hv.same s04,T,PO,wm,w1,Nat.le_add_left 1 _,by omega,λu5 H5 t5 s5=>?_⟩
    rw[eM] at t5
    obtain⟨pm,rfl,hpm⟩:=t5
    refine⟨few rfl,λq1 hq1=>?_⟩
    have Sq1:=Same.new (o:= .tup [V.ref b1,V.ref pm]) hq1
    have eq1:=zb (H:=H5) (a:=q1) (o:= .tup [V.ref b1,V.ref pm])
    have hpm1:=Sq1 _ _ hpm
    have s46:=s5.trans Sq1
    generalize (upd H5 q1 (.tup [V.ref b1,V.ref pm]))=H6 at *
    refine⟨_,rfl,_,rfl,_,rfl, .ref p,b2,x::r',g,hs,ps,lks,hds,O,rfl,hv.same (s04.trans s46),T,PO,wm',s46 _ _ w2,Nat.le_add_left 1 _,by omega,λu7 H7 t7 s7=>?_⟩
    rw[eM'] at t7
    obtain⟨pm',rfl,hpm'⟩:=t7
    refine⟨few rfl,λq2 hq2=>?_⟩
    have Sq2:=Same.new (o:= .tup [V.ref b2,V.ref pm']) hq2
    have eq2:=zb (H:=H7) (a:=q2) (o:= .tup [V.ref b2,V.ref pm'])
    have hpm2:=Sq2 _ _ hpm'
    have s68:=s7.trans Sq2
    generalize (upd H7 q2 (.tup [V.ref b2,V.ref pm']))=H8 at *
    have s48:=s46.trans s68
    have s08:=s04.trans s48
    have R1:Rep H8 (.ref q1) (.tup [.tup ((x::r).map D.str), .tup (m.map D.str)]):= .mkL (vs:=[.ref b1, .ref pm]) (s68 _ _ eq1) (Nat.le_of_ble_eq_true rfl) (.cons (.mkL (s48 _ _ w1) (by rw[List.length_map];omega) (zbZ λy hy=>zC (E1.nw y hy))) (.cons (.mkL (s68 _ _ hpm1) (by rw[List.length_map];have:=E1.lm;have:m.length<=100:=this;omega) (zbZ λy hy=>zC (E1.nm y hy))) .nil))
    have R2:Rep H8 (.ref q2) (.tup [.tup ((x::r').map D.str), .tup (m'.map D.str)]):= .mkL (vs:=[.ref b2, .ref pm']) eq2 (Nat.le_of_ble_eq_true rfl) (.cons (.mkL (s48 _ _ w2) (by rw[List.length_map];omega) (zbZ λy hy=>zC (E2.nw y hy))) (.cons (.mkL hpm2 (by rw[List.length_map];have:m'.length<=100:=E2.lm;omega) (zbZ λy hy=>zC (E2.nm y hy))) .nil))
    obtain⟨j,rs,hj,hlj,er⟩:=zgQ T hx
    have l1:r.length<=90:=by have:r.length+1<=10:=w10;omega
    have l2:r'.length<=90:=by have:r'.length+1<=10:=w10';omega
    have t1:=E1.wt
    have t2:=E2.wt
    rw[er] at t1 t2 lt
    refine⟨_,_,rfl,_,rfl,_,rfl,_,rfl, .ref p, .ref q1, .ref q2,x,r,m,r',m',g,hs,ps,lks,hds,j,rs,_,_,rfl,hv.same s08,T,hj,hlj,R1,R2,E1.nw,E1.nm,l1,E1.lm,E2.nw,E2.nm,l2,E2.lm,t1,t2,λH9 s9=>?_⟩
    have m1:zlq (wI rs (x::r,m)) (wI rs (x::r',m')) (x::r) (x::r')=true:=lt
    have m2:zlq (wI rs (x::r',m')) (wI rs (x::r,m)) (x::r') (x::r)=false:=ziB lt
    rw[m1]
    refine⟨_,_,rfl,rfl,_,rfl,zbC rfl ?_⟩
    refine⟨_,rfl,_,rfl,_,rfl, .ref p, .ref q2, .ref q1,x,r',m',r,m,g,hs,ps,lks,hds,j,rs,_,_,rfl,hv.same (s08.trans s9),T,hj,hlj,R2.same s9,R1.same s9,E2.nw,E2.nm,l2,E2.lm,E1.nw,E1.nm,l1,E1.lm,t2,t1,λHA sA=>?_⟩
    rw[m2]
    refine⟨_,_,rfl,rfl,_,rfl,zbC rfl ?_⟩
    exact⟨⟨_,_,_,_,rfl⟩,s24.trans (s48.trans (s9.trans sA))⟩
   ·rintro σ' H3 ⟨⟨o2,o3,o4,o5,rfl⟩,s3⟩
    exact q _ (s02.trans s3)
end
section
variable{P:Program}{w:World}{K:PySem.W.Frag}{mg:Str->Option Value}{base:Heap}
theorem zga:∀(w:List Str),(ed mmS w).length=w.length -1
 |[]=>rfl
 |[_]=>rfl
 |a::b::r=>by
  show(ed mmS (b::r)).length+1=_
  rw[zga (b::r)];rfl
theorem ziS:∀{w:List Str} {i:Nat} {a b:Str},w[i]?=some a->w[i+1]?=some b->(ed mmS w)[i]?=some (mmS a b)
 |[],i,a,b,h,_=>by cases h
 |[x],i,a,b,_,h=>by cases h
 |x::y::r,0,a,b,h,h'=>by cases h;cases h';rfl
 |x::y::r,i+1,a,b,h,h'=>by
  show(ed mmS (y::r))[i]?=_
  exact ziS (w:=y::r) h h'
theorem zmW{t:Str×Str}{a b:Str}(ht:ltS t.1 t.2=true):(decide ((a,b)=t)||decide ((b,a)=t))=decide (mmS a b=t):=by
 rw[Bool.eq_iff_iff,Bool.or_eq_true,decide_eq_true_iff,decide_eq_true_iff,decide_eq_true_iff]
 constructor
 ·rintro (rfl|rfl)
  ·exact zfT ht
  ·rw[mmS_MM.sym];exact zfT ht
 ·intro h
  rcases mmS_MM.two a b with e|e
  ·exact .inl (e.symm.trans h)
  ·exact .inr (e.symm.trans h)
def zlD:Sp:=λvs H Q _=>∃(pw pt:Addr) (w:List Str) (t:Str×Str),vs=[.ref pw, .ref pt]/\H pw=some (.tup (w.map V.str))/\H pt=some (.tup [.str t.1, .str t.2])/\ltS t.1 t.2=true/\zh t.1=true/\zh t.2=true/\(∀y∈w,zh y=true)/\1<=w.length/\w.length<=10/\∀H',Same H H'->Q (.bl (decide (t∈ed mmS w))) H'
theorem zii(Y:Ev K mg):FnOk P w K mg base CX0 1 Y.a__law_goes_by Y.d__law_goes_by zat zlD:=by
 refine Y._law_goes_by.fn.okQ zeZ (λvs H Q E h=>?_) (λcdv A outer s H vs Q E hr h=>?_)
 ·obtain ⟨pw,pt,w,t,rfl,_⟩:=h;rfl
 ·obtain ⟨pw,pt,w,t,rfl,hpw,hpt,ht,n1,n2,nw,w1,w10,q⟩:=h
  refine⟨_,(zm (zx (zz (zjZ rfl) Y.any zoj (za (zaT (src:=[none,some 1]) o__law_goes_by_1 rfl rfl (zoX Y.zip (za (qv 0) (za (zc3 zaH (qv 0) (zaO zf) zaQ) zc))) (λ_ _ _ _ _=>(zt 0 o__law_goes_by_1.nd)) (λ_ _ _ _ _=>zbW) (λ_ _ _ _ _=>(zb5 (zoK (zei hr)) (qc 1) (zD (za (qv 0) (za ((zoY (K:=K) rfl) (qv 0) (zju zdW zf)) zc)))))) zc)))),?_⟩
  have ec:zaY (w.map V.str) (some 1) none=(w.drop 1).map V.str:=by
   have:=zby (xs:=w.map V.str) (m:=1)
   rw[←List.map_drop] at this
   exact this
  refine⟨_,rfl,_,rfl,_,rfl,pw,_,rfl, .inl (.inl hpw),λz=>?_,λp1 hp1=>?_⟩
  ·rw[ec] at z
   have:=congrArg List.length z
   rw[List.length_map,List.length_map,List.length_drop] at this
   omega
  rw[ec]
  have S1:=Same.new (o:= .tup ((w.drop 1).map V.str)) hp1
  have e1:=zb (H:=H) (a:=p1) (o:= .tup ((w.drop 1).map V.str))
  generalize (upd H p1 (.tup ((w.drop 1).map V.str)))=H1 at *
  have hpw1:=S1 _ _ hpw
  refine⟨pw,p1,true,true,w.map V.str,(w.drop 1).map V.str,rfl,hpw1,e1,?_⟩
  have eN:min (w.map V.str).length ((w.drop 1).map V.str).length=w.length -1:=by rw[List.length_map,List.length_map,List.length_drop];omega
  rw[eN]
  have get2:∀i,i<w.length -1->∃a b,w[i]?=some a/\w[i+1]?=some b/\(w.map V.str)[i]?=some (.str a)/\((w.drop 1).map V.str)[i]?=some (.str b):=λi hi=>by
   have h1:i<w.length:=by omega
   have h2:i+1<w.length:=by omega
   refine⟨w[i],w[i+1],List.getElem?_eq_getElem h1,List.getElem?_eq_getElem h2,by rw[List.getElem?_map,List.getElem?_eq_getElem h1];rfl,?_⟩
   rw[List.getElem?_map,List.getElem?_drop,Nat.add_comm,List.getElem?_eq_getElem h2];rfl
  refine zlh (n:=w.length -1) (λl i ys σ' H'=>(∃o,σ'=[o,some (.ref pt)])/\ys=(((ed mmS w).take i).map λp=>decide (p=t)).map V.bl/\Same H1 H') ?_ ?_ ?_ ?_ ?_
  ·exact λl hl=>⟨⟨_,rfl⟩,rfl,Same.new hl⟩
  ·rintro l i ys σ' H' hl hi ⟨_,_,s'⟩
   obtain⟨a,b,_,_,g1,g2⟩:=get2 i hi
   exact⟨_,_, .str a, .str b,s' _ _ hpw1,s' _ _ e1,eN,g1,g2⟩
  ·rintro l ys σ' H' hl ⟨_,_,s'⟩
   exact⟨_,_,s' _ _ hpw1,s' _ _ e1,eN,Nat.le_refl _⟩
  ·rintro l i x ys σ' H4 H5 hl hi ⟨⟨o,rfl⟩,rfl,s4⟩ hl4 ⟨Tt,xs',ys',u,v,hx',hy',rfl,hT,hu,hv,rfl⟩
   have ex:xs'=w.map V.str:=SqZ.inj (t:=true) hx' (s4 _ _ hpw1)
   have ey:ys'=(w.drop 1).map V.str:=SqZ.inj (t:=true) hy' (s4 _ _ e1)
   subst ex ey
   obtain⟨a,b,ga,gb,g1,g2⟩:=get2 i hi
   rw[g1] at hu
   rw[g2] at hv
   cases hu
   cases hv
   have na:zh a=true:=nw a (List.mem_of_getElem? ga)
   have nb:zh b=true:=nw b (List.mem_of_getElem? gb)
   have ST:=Same.new (o:= .tup [V.str a,V.str b]) hT
   have eT:=zb (H:=H4) (a:=Tt) (o:= .tup [V.str a,V.str b])
   have hl5:=ST _ _ hl4
   have s15:=s4.trans ST
   generalize (upd H4 Tt (HO.tup [V.str a,V.str b]))=H5 at *
   refine⟨_,rfl,_,rfl,_,rfl,Tt,_,rfl, .inl (.inl eT),λpr hpr=>?_⟩
   have Sr:=Same.new (o:= .tup [V.str b,V.str a]) hpr
   have er:=zb (H:=H5) (a:=pr) (o:= .tup [V.str b,V.str a])
   have s16:=s15.trans Sr
   have hl6:=Sr _ _ hl5
   have eT6:=Sr _ _ eT
   rw[show([V.str a,V.str b]:List V).reverse=[V.str b,V.str a] from rfl]
   generalize (upd H5 pr (.tup [V.str b,V.str a]))=H6 at *
   refine⟨few rfl,λpq hpq=>?_⟩
   have Sq:=Same.new (o:= .tup [V.ref Tt,V.ref pr]) hpq
   have eq:=zb (H:=H6) (a:=pq) (o:= .tup [V.ref Tt,V.ref pr])
   have s17:=s16.trans Sq
   have hl7:=Sq _ _ hl6
   have eT7:=Sq _ _ eT6
   have er7:=Sq _ _ er
   generalize (upd H6 pq (.tup [V.ref Tt,V.ref pr]))=H7 at *
   have two:∀{x y:Str},zh x=true->zh y=true->∀z∈ [x,y],PyData.strOk z=true:=λhx hy z hz=>by
    rcases List.mem_cons.mp hz with rfl|hz
    ·exact zP hx
    ·rw[List.mem_singleton.mp hz];exact zP hy
   have trT:Tr H7 (.ref pt) (.tuple (zq [t.1,t.2])):=zap (s17 _ _ (S1 _ _ hpt)) (two n1 n2)
   have tr1:Tr H7 (.ref Tt) (.tuple (zq [a,b])):=zap eT7 (two na nb)
   have tr2:Tr H7 (.ref pr) (.tuple (zq [b,a])):=zap er7 (two nb na)
   have trP:Tr H7 (.ref pq) (.tuple [.tuple (zq [a,b]), .tuple (zq [b,a])]):= .tup eq rfl λk v d h1 h2=>by
    match k,h1,h2 with
    |0,h1,h2=>cases h1;cases h2;exact tr1
    |1,h1,h2=>cases h1;cases h2;exact tr2
   refine⟨.tuple (zq [t.1,t.2]),_,trT, .inr trP,zau,?_⟩
   have ea:(([.tuple (zq [a,b]), .tuple (zq [b,a])]:List PyData).any λy=>y.eqv (.tuple (zq [t.1,t.2])))=decide (mmS a b=t):=by
    rw[List.any_cons,List.any_cons,List.any_nil,Bool.or_false,ze5 (p:=(a,b)) (q:=t),ze5 (p:=(b,a)) (q:=t)]
    exact zmW ht
   rw[ea]
   have ge:=ziS ga gb
   have tk:(ed mmS w).take (i+1)=(ed mmS w).take i ++ [mmS a b]:=by rw[List.take_add_one,ge];rfl
   refine⟨hl7,zn ?_,⟨_,rfl⟩,?_,λc o e=>by rw[ze (zi e hl)];exact s17 c o e⟩
   ·rw[List.length_map,List.length_map,List.length_take,zga];omega
   ·rw[tk,List.map_append,List.map_append];rfl
  ·rintro l ys σ' H' hl ⟨⟨o,rfl⟩,rfl,s'⟩ hl'
   refine⟨l,_,rfl,SqL.of hl',?_⟩
   have e:((((ed mmS w).take (w.length -1)).map λp=>decide (p=t)).any id)=decide (t∈ed mmS w):=by
    rw[←zga,List.take_length,Bool.eq_iff_iff,decide_eq_true_iff,List.any_eq_true]
    constructor
    ·rintro ⟨b,hb,e⟩
     obtain⟨p,hp,rfl⟩:=List.mem_map.mp hb
     rw[←of_decide_eq_true e];exact hp
    ·intro h
     exact⟨true,List.mem_map.mpr ⟨t,h,decide_eq_true rfl⟩,rfl⟩
   rw[e]
   exact q _ (S1.trans s')
end
section
variable{P:Program}{w:World}{K:PySem.W.Frag}{mg:Str->Option Value}{base:Heap}
theorem zkF{H:Hp}{v:V}{o:Option (List Str)}(h:Told H v o)(hn:∀w,o=some w->∀y∈w,zh y=true):Tr H v (oD o):=by
 cases o with
 |none=>cases (show v= .non from h);exact .non
 |some w=>
  obtain⟨p,rfl,hp⟩:=h
  exact zap hp λx hx=>zP (hn w rfl x hx)
theorem Told.tups{H H':Hp}{u:V}{o:Option (List Str)}(h:Told H u o)(t:∀c xs,H c=some (.tup xs)->H' c=some (.tup xs)):Told H' u o:=by
 cases o with
 |none=>exact h
 |some w=>obtain ⟨p,e,hp⟩:=h;exact⟨p,e,t _ _ hp⟩
def AtT(H:Hp)(ys:List V)(os:List (Option (List Str))):Prop:=ys.length=os.length/\∀(i:Nat) (v:V) (o:Option (List Str)),ys[i]?=some v->os[i]?=some o->Told H v o
theorem AtT.nil{H:Hp}:AtT H [] []:=⟨rfl,λi v o e=>by cases e⟩
theorem AtT.tups{H H':Hp}{ys:List V}{os:List (Option (List Str))}(h:AtT H ys os)(t:∀c xs,H c=some (.tup xs)->H' c=some (.tup xs)):AtT H' ys os:=⟨h.1,λi v o e1 e2=>Told.tups (h.2 i v o e1 e2) t⟩
theorem AtT.snoc{H:Hp}{ys:List V}{os:List (Option (List Str))}{v:V}{o:Option (List Str)}(h:AtT H ys os)(t:Told H v o):AtT H (ys ++ [v]) (os ++ [o]):=by
 refine⟨by rw[List.length_append,List.length_append,h.1];rfl,λj x u e1 e2=>?_⟩
 rcases Nat.lt_or_ge j ys.length with z|z
 ·rw[List.getElem?_append_left z] at e1
  rw[List.getElem?_append_left (by rw[←h.1];exact z)] at e2
  exact h.2 j x u e1 e2
 ·rw[List.getElem?_append_right z] at e1
  rw[List.getElem?_append_right (by rw[←h.1];exact z),←h.1] at e2
  cases hk:j -ys.length with
  |zero=>rw[hk] at e1 e2;cases e1;cases e2;exact t
  |succ n=>rw[hk] at e1;cases e1
def zeX(os:List (Option (List Str))):PyData:= .list (os.map oD)
theorem AtT.tr{H:Hp}{l:Addr}{ys:List V}{os:List (Option (List Str))}(e:H l=some (.lst ys))(h:AtT H ys os)(hn:∀o∈os,∀w,o=some w->∀y∈w,zh y=true):Tr H (.ref l) (zeX os):=by
 refine .lst e (by rw[List.length_map];exact h.1) λi v d e1 e2=>?_
 rw[List.getElem?_map] at e2
 cases eo:os[i]? with
 |none=>rw[eo] at e2;cases e2
 |some o=>rw[eo] at e2;cases e2;exact zkF (h.2 i v o e1 eo) (hn o (List.mem_of_getElem? eo))
theorem zd8{os:List (Option (List Str))}:(zeX os).depth<=60:=by
 unfold zeX
 rw[PyData.depth]
 have:=zbJ (n:=58) (xs:=os.map oD) λx hx=>by
  obtain⟨o,_,rfl⟩:=List.mem_map.mp hx
  cases o with
  |none=>show PyData.none.depth<=58;rw[PyData.depth];omega
  |some w=>
   show(PyData.tuple (zq w)).depth<=58
   rw[PyData.depth]
   have:=zbJ (n:=0) (xs:=zq w) λx hx=>by
    unfold zq at hx
    obtain⟨y,_,rfl⟩:=List.mem_map.mp hx
    rw[PyData.depth];omega
   omega
 omega
theorem zcY{K:PySem.W.Frag}{l:Addr}{us:List V}{ws:List (List Str)}{M:List Str->Option (List Str)}{te:TE}{src:List (Option Nat)}{σ:L2.St}{H1:Hp}{σr:L2.St}{Q:VK}(el:H1 l=some (.lst us))(al:AtG zb0 H1 us ws)(h16:ws.length<=100)(e:zdk src σ=none::σr)
 (hte:∀(b:Addr) (w:List Str) (H':Hp) (R:VK),w∈ws->H' b=some (.tup (w.map V.str))->Same H1 H'->(∀u H'',Told H'' u (M w)->Same H' H''->R u H'')->te (some (.ref b)::σr) H' R)
 (hQ:∀l2 ys H',H1 l2=none->H' l2=some (.lst ys)->AtT H' ys (ws.map M)->Same H1 H'->Q (.ref l2) H'):zcu (zbi 0) zjO te src σ Q (Itl K l) H1:=by
 refine zba (zcT (K:=K) (xs:=us)) (λl2 i ys σ' H'=>(∃o,σ'=o::σr)/\AtT H' ys ((ws.map M).take i)/\Same H1 H') ?_ (λl2 i ys σ' H' hl z=>SqL.of (z.2.2 _ _ el)) ?_ ?_
 ·exact λl2 hl=>⟨⟨none,e⟩,AtT.nil,Same.new hl⟩
 ·rintro l2 i v0 ys σ' H2 hl' hi hv0 ⟨⟨o,rfl⟩,a2,s2⟩ hl2
  have hi':i<ws.length:=by rw[←al.1];exact hi
  obtain⟨b,rfl,ob⟩:=al.2 i v0 ws[i] hv0 (List.getElem?_eq_getElem hi')
  refine hte b ws[i] H2 _ (List.getElem_mem hi') (s2 _ _ ob) s2 λu H3 tu s3=>?_
  have hl3:=s3 _ _ hl2
  refine⟨hl3,zn (by rw[a2.1,List.length_take,List.length_map];omega),⟨_,rfl⟩,?_,λb o e=>by rw[ze (zi e hl')];exact s3 _ _ (s2 b o e)⟩
  have tk:(ws.map M).take (i+1)=(ws.map M).take i ++ [M ws[i]]:=by rw[List.take_add_one,List.getElem?_map,List.getElem?_eq_getElem hi'];rfl
  rw[tk]
  have t4:∀c xs,H3 c=some (.tup xs)->upd H3 l2 (.lst (ys ++ [u])) c=some (.tup xs):=λc xs e=>by rw[ze (zaN e hl3 (by intro z;cases z))];exact e
  exact AtT.snoc (a2.tups λc xs e=>t4 _ _ (s3 _ _ e)) (Told.tups tu t4)
 ·rintro l2 ys σ' H2 hl' ⟨_,a2,s2⟩ hl2
  rw[List.take_of_length_le (by rw[List.length_map,al.1];exact Nat.le_refl _)] at a2
  exact hQ l2 ys H2 hl' hl2 a2 s2
end
section
variable{P:Program}{w:World}{K:PySem.W.Frag}{mg:Str->Option Value}{base:Heap}
def zgT:Sp:=λvs H Q _=>∃(v:V) (kd pt:Addr) (t:Str×Str) (ls:List Addr) (W:Str->List (List Str)) (H0:Hp) (g:Str) (hs:List Str) (ps:List (Str×Str)) (lks hds:List D) (O:List Str),vs=[v, .ref kd, .ref pt]/\Rep H v (zaB g hs ps lks hds)/\TownOk g hs ps lks hds/\Pool hs lks hds O/\zbT ps/\ps.length<=1000/\Kn H0 H kd g hs ps lks hds ls W/\t∈ps/\H pt=some (.tup [.str t.1, .str t.2])/\∀H',Same H H'->Q (.bl true) H'
theorem zjq(Y:Ev K mg):FnOk P w K mg base CX0 9 Y.a__law_untied Y.d__law_untied zaR zgT:=by
 have G__law_without:FnOk P w K mg base CX0 1 Y.a__law_without Y.d__law_without zaA zfk:=zhY Y
 have G__law_goes_by:FnOk P w K mg base CX0 1 Y.a__law_goes_by Y.d__law_goes_by zat zlD:=zii Y
 have G_lets:FnOk P w K mg base CX0 8 Y.a_lets Y.d_lets zdT zil:=zix Y
 have G_marks_of:FnOk P w K mg base CX0 7 Y.a_marks_of Y.d_marks_of zay zcd:=zb7 Y
 refine Y._law_untied.fn.okQ c__law_untied (λvs H Q E h=>?_) (λcdv A outer s H vs Q E hr h=>?_)
 ·obtain ⟨v,kd,pt,t,ls,W,H0,g,hs,ps,lks,hds,O,rfl,_⟩:=h;rfl
 ·obtain ⟨v,kd,tp,t,ls,W,H0,g,hs,ps,lks,hds,O,rfl,hv,T,PO,sp,p100,kn,ht,htp,q⟩:=h
  have hv':=hv
  obtain⟨p,pr,pt,pl,pa,vt,vl,va,rfl,hp,hpr,_⟩:=zbv hv'
  have tin:∀p∈ps,p.1∈hs/\p.2∈hs:=λp hp=>⟨(T.ties p hp).1,(T.ties p hp).2.1⟩
  have tt:=T.ties t ht
  have nt1:=T.names _ tt.1
  have nt2:=T.names _ tt.2.1
  refine⟨_,(zg (zcm 3 c__law_untied.nd (zj G__law_without (hr.mono (by decide)) Y._law_without.mg Y._law_without.kp Y._law_without.b .nil zo (za (qc 0) (za (qc 2) zc))))
   (zg (zB 4 c__law_untied.nd (zj G_lets (hr.mono (by decide)) Y.lets.mg Y.lets.kp Y.lets.b .nil zo (za (qc 3) zc)))
   (zg (zbx PassesOwn.never rfl (zbY (zT ix_tup (qc 0) zf)) (zt 5 c__law_untied.nd) (zg (zdQ 6 (src:=[none,some 2]) o__law_untied_1 rfl rfl c__law_untied.nd (zcn (zca (hu1 hr) (qv 1) (qv 5))) (λ_ _ _ _ _=>(zt 0 o__law_untied_1.nd)) (λ_ _ _ _ _=>(zhr (zfq (zeW (zj G__law_goes_by (hr.mono (by decide)) Y._law_goes_by.mg Y._law_goes_by.kp Y._law_goes_by.b .nil zo (za (qv 0) (za (qc 1) zc))))))) (λ_ _ _ _ _=>(qv 0)))
   (zg (zas (zI (ze3 (zei hr)) (zca (hu1 hr) (qv 4) (qv 5)) (qv 6)) (zm (zx zcb)) zS)
   (zm (zas (zI (ze3 (zei hr)) (zaT (src:=[none,some 3]) o__law_untied_2 rfl rfl (zcn (qv 6)) (λ_ _ _ _ _=>(zt 0 o__law_untied_2.nd)) (λ_ _ _ _ _=>zbW) (λ_ _ _ _ _=>(zj G_marks_of (hr.mono (by decide)) Y.marks_of.mg Y.marks_of.kp Y.marks_of.b .nil zo (za (qc 1) (za (qv 0) zc))))) (zaT (src:=[none,some 0]) o__law_untied_3 rfl rfl (zcn (qv 6)) (λ_ _ _ _ _=>(zt 0 o__law_untied_3.nd)) (λ_ _ _ _ _=>zbW) (λ_ _ _ _ _=>(zj G_marks_of (hr.mono (by decide)) Y.marks_of.mg Y.marks_of.kp Y.marks_of.b .nil zo (za (qc 1) (za (qv 0) zc)))))) (zm (zx zcb)) zS)))))
   (zm (zx zcb))))),?_⟩
  refine⟨_,rfl,_,rfl, .ref p,tp,t,g,hs,ps,lks,hds,rfl,hv,T,p100,htp,nt1,nt2,λu H1 ru s1=>?_⟩
  refine⟨_,rfl,u,g,hs,zbH ps t,lks,hds,O,rfl,ru,zc1 T t,PO,zcE sp t,λfd ls2 W2 H2 hfd gl2 du2 fN s2=>?_⟩
  have s02:=s1.trans s2
  have hp2:=s02 _ _ hp
  have hpr2:=s02 _ _ hpr
  have kn2:Kn H1 H2 fd g hs (zbH ps t) lks hds ls2 W2:=⟨hfd,gl2,du2⟩
  refine⟨_,rfl,p,_,1,_,rfl,rfl, .inl (.inl hp2),at1,pr,rfl,⟨_, .inl (.inl hpr2)⟩,?_⟩
  refine za9 (zaU (K:=K) (xs:=hs.map V.str)) (λi σ' H'=>(∃o5 o6,σ'=[some (.ref p),some (.ref kd),some (.ref tp),some u,some (.ref fd),o5,o6])/\Same H2 H') ⟨⟨_,_,rfl⟩,Same.refl _⟩ (λi σ' H' z=> .inl (.inl (z.2 _ _ hpr2))) ?_ ?_
  ·rintro i x0 σ' H3 hi hx0 ⟨⟨o5,o6,rfl⟩,s3⟩
   rw[List.getElem?_map] at hx0
   obtain⟨x,ex,rfl⟩:∃x,hs[i]?=some x/\x0= .str x:=by
    cases e:hs[i]? with
    |none=>rw[e] at hx0;cases hx0
    |some y=>rw[e] at hx0;cases hx0;exact⟨y,rfl,rfl⟩
   have hx:=List.mem_of_getElem? ex
   have s03:=s02.trans s3
   obtain⟨l,us,dg,eu,au,wk,_⟩:=(kn.same s03).get T sp hx
   have dueX:=kn.due x hx
   dsimp only[zbi]
   refine⟨_,rfl,_,rfl,kd,_,rfl,dg,l,rfl,⟨_,SqL.of eu⟩,?_⟩
   obtain⟨nt,ent⟩:∃nt:List Str->Bool,nt=λw=>!decide (t∈ed mmS w):=⟨_,rfl⟩
   refine zba (zcT (K:=K) (xs:=us)) (λl2 i ys σ' H'=>(∃o,σ'=[o,some (.ref tp)])/\AtG zb0 H' ys (((W x).take i).filter nt)/\Same H3 H') ?_ (λl2 i ys σ' H' hl z=>SqL.of (z.2.2 _ _ eu)) ?_ ?_
   ·exact λl2 hl=>⟨⟨_,rfl⟩,⟨rfl,λi v p e _=>by cases e⟩,Same.new hl⟩
   ·rintro l2 j v0 ys σ' H4 hl' hj hv0 ⟨⟨o,rfl⟩,a4,s4⟩ hl4
    have hj':j<(W x).length:=by rw[←au.1];exact hj
    have ew:(W x)[j]?=some (W x)[j]:=List.getElem?_eq_getElem hj'
    obtain⟨b,rfl,ob⟩:=au.2 j v0 (W x)[j] hv0 ew
    have wm:(W x)[j]∈W x:=List.getElem_mem hj'
    have tk:((W x).take (j+1)).filter nt=((W x).take j).filter nt ++(if nt (W x)[j]=true then [(W x)[j]] else []):=by
     rw[List.take_add_one,ew,List.filter_append]
     show _ ++List.filter _ [(W x)[j]]=_
     rw[List.filter_cons,List.filter_nil]
    obtain⟨r,m,er,sw,em⟩:=zcG dueX _ wm
    generalize (W x)[j]=w at *
    have ob:H3 b=some (.tup (w.map V.str)):=ob
    have s04:=s03.trans s4
    refine⟨_,rfl,_,rfl,b,tp,w,t,rfl,s4 _ _ ob,s04 _ _ htp,tt.2.2,nt1,nt2,wk.nm w wm,by rw[er];exact Nat.le_add_left 1 _,wk.len w wm,λH5 s5=>⟨_,rfl,?_⟩⟩
    have hl5:=s5 _ _ hl4
    have e0:(!decide (t∈ed mmS w))=nt w:=by rw[ent]
    dsimp only
    rw[e0]
    have ly:ys.length<=100:=by
     rw[a4.1]
     refine Nat.le_trans (List.length_filter_le _ _) ?_
     rw[List.length_take]
     have:=wk.few
     omega
    cases hn:nt w with
    |false=>
     rw[hn,if_neg (by decide),List.append_nil] at tk
     refine zbC rfl ⟨hl5,⟨_,rfl⟩,?_,s4.trans s5⟩
     rw[tk]
     exact AtG.mono a4 λb a e=>s5 _ _ e
    |true=>
     rw[hn,if_pos rfl] at tk
     refine zc6 rfl ⟨_,rfl,hl5,zn (by omega),⟨_,rfl⟩,?_,λc o e=>by rw[ze (zi e hl')];exact s5 _ _ (s4 c o e)⟩
     rw[tk]
     have t6:∀c xs,H5 c=some (.tup xs)->upd H5 l2 (.lst (ys ++ [.ref b])) c=some (.tup xs):=λc xs e=>by rw[ze (zaN e hl5 (by intro z;cases z))];exact e
     exact AtG.snoc (AtG.mono a4 λb a e=>t6 _ _ (s5 _ _ e)) (t6 _ _ (s5 _ _ (s4 _ _ ob)))
   rintro l2 ys σ' H4 hl' ⟨⟨o,rfl⟩,a4,s4⟩ hl4
   rw[show us.length=(W x).length from au.1,List.take_length] at a4
   have eW:W2 x=(W x).filter nt:=by rw[ent];exact Due.uniq (du2 x hx) (zkG dueX)
   rw[←eW] at a4
   have wk2:WsOk (W2 x):=zdU (zc1 T t) (zcE sp t) (du2 x hx)
   have s24:=s3.trans s4
   have s04:=s02.trans s24
   obtain⟨l3,us3,dg3,eu3,au3,_,tr3⟩:=(kn2.same s24).get (zc1 T t) (zcE sp t) hx
   have trD:=zdr hl4 a4 wk2
   dsimp only[zbi]
   refine⟨_,rfl,_,rfl,fd,_,rfl,dg3,_,rfl,zbX (W2 x),zbX (W2 x),tr3,trD,Nat.le_trans (Nat.min_le_left _ _) (zdx wk2).2.1,?_⟩
   rw[SeqAt.eqv_refl _ trD.can]
   refine⟨_,rfl,zbC rfl ?_⟩
   have sub:∀w∈W2 x,w∈W x:=λw hw=>by rw[eW] at hw;exact(List.mem_filter.mp hw).1
   have l16:(W2 x).length<=100:=Nat.le_trans wk2.few (by decide)
   have mem:∀w∈W2 x,(∀z∈w,z∈hs)/\1<=w.length/\w.length<=80:=λw hw=>by
    obtain⟨r,m,er,sw,em⟩:=zcG dueX w (sub w hw)
    rw[er]
    have:=wk.len w (sub w hw)
    rw[er] at this
    exact⟨SW.mem T.goal tin sw,Nat.le_add_left 1 _,by omega⟩
   have nmM:∀o∈(W2 x).map (zk hs lks hds),∀w,o=some w->∀y∈w,zh y=true:=λo ho w e y hy=>by
    obtain⟨w',hw',rfl⟩:=List.mem_map.mp ho
    have MR:=zbA T PO (mem w' hw').1 e
    exact PO.nm y (MR.mem y hy)
   refine⟨_,rfl,l2,rfl,⟨_,SqL.of hl4⟩,?_⟩
   refine zcY (K:=K) (M:=zk hs lks hds) hl4 a4 l16 rfl (λb w H5 R hw hb s5 hR=>?_) (λlA ysA H5 lAN elA atA s5=>?_)
   ·exact ⟨_,rfl,_,rfl,u,b,w,g,hs,zbH ps t,lks,hds,O,rfl,ru.same (s2.trans (s24.trans s5)),zc1 T t,PO,(mem w hw).1,hb,(mem w hw).2.1,(mem w hw).2.2,λu6 H6 t6 s6=>hR u6 H6 t6 s6⟩
   have hl5:=s5 _ _ hl4
   refine⟨_,rfl,l2,rfl,⟨_,SqL.of hl5⟩,?_⟩
   refine zcY (K:=K) (M:=zk hs lks hds) hl5 (AtG.mono a4 λb a e=>s5 _ _ e) l16 rfl (λb w H6 R hw hb s6 hR=>?_) (λlB ysB H6 lBN elB atB s6=>?_)
   ·exact ⟨_,rfl,_,rfl, .ref p,b,w,g,hs,ps,lks,hds,O,rfl,hv.same (s04.trans (s5.trans s6)),T,PO,(mem w hw).1,hb,(mem w hw).2.1,(mem w hw).2.2,λu7 H7 t7 s7=>hR u7 H7 t7 s7⟩
   have trA:Tr H6 (.ref lA) (zeX ((W2 x).map (zk hs lks hds))):=AtT.tr (s6 _ _ elA) (atA.tups λc xs e=>s6 _ _ e) nmM
   have trB:Tr H6 (.ref lB) (zeX ((W2 x).map (zk hs lks hds))):=AtT.tr elB atB nmM
   refine⟨_,_,trA,trB,Nat.le_trans (Nat.min_le_left _ _) zd8,?_⟩
   rw[SeqAt.eqv_refl _ trA.can]
   exact⟨_,rfl,zbC rfl ⟨⟨_,_,rfl⟩,s24.trans (s5.trans s6)⟩⟩
  ·rintro σ' H3 ⟨⟨o5,o6,rfl⟩,s3⟩
   exact q _ (s02.trans s3)
end
section
variable{P:Program}{w:World}{K:PySem.W.Frag}{mg:Str->Option Value}{base:Heap}
def Nv(r:D):Prop:=∀(ws ms:List Str) (to:Option Str),ws.length<=90->zcH ws ms to (zc9 r)=false
structure Idle(g:Str)(hs:List Str)(lks hds lks' hds':List D):Prop where
 ll:lks'.length=lks.length
 lh:hds'.length=hds.length
 lk:∀(j:Nat) (x:Str),hs[j]?=some x->x≠g->∃r1 r2 r,lks[j]?=some (.tup (r1 ++r2))/\lks'[j]?=some (.tup (r1 ++ [r]++r2))/\Nv r
 hd:∀(j:Nat) (x:Str),hs[j]?=some x->∃r1 r2 r,hds[j]?=some (.tup (r1 ++r2))/\hds'[j]?=some (.tup (r1 ++ [r]++r2))/\Nv r
section
variable{g:Str}{hs:List Str}{ps:List (Str×Str)}{lks hds lks' hds':List D}
theorem Idle.worth(I:Idle g hs lks hds lks' hds')(nd:hs.Nodup){x:Str}(hx:x∈hs)(hg:x≠g){ws ms:List Str}(hw:ws.length<=90):zw ws ms (zO hs lks' x)=zw ws ms (zO hs lks x):=by
 obtain⟨j,hj⟩:=List.getElem?_of_mem hx
 obtain⟨r1,r2,r,e1,e2,nv⟩:=I.lk j x hj hg
 rw[zcp nd hj e1,zcp nd hj e2]
 exact zgJ (nv ws ms none hw)
theorem Idle.handed(I:Idle g hs lks hds lks' hds')(nd:hs.Nodup){x:Str}(hx:x∈hs){ws:List Str}{to:Option Str}{t:List Str}(hw:ws.length<=90):zv ws to (zO hs hds' x) t=zv ws to (zO hs hds x) t:=by
 obtain⟨j,hj⟩:=List.getElem?_of_mem hx
 obtain⟨r1,r2,r,e1,e2,nv⟩:=I.hd j x hj
 rw[zcp nd hj e1,zcp nd hj e2]
 exact zgA λt=>nv ws t to hw
theorem zhD{x a:Str}{q:List Str}(s:SW g ps (x::a::q)):x≠g:=λz=>by
 have h1:=s.last
 rw[List.getLast?_cons_cons,←z] at h1
 exact(List.nodup_cons.mp s.nd).1 (List.mem_of_getLast? h1)
theorem Idle.marks(I:Idle g hs lks hds lks' hds')(T:TownOk g hs ps lks hds):∀{w:List Str},SW g ps w->zk hs lks' hds' w=zk hs lks hds w
 |[],s=>by obtain⟨_,_,e⟩:=s.ne;cases e
 |[x],_=>by rw[zk,zk]
 |x::a::q,s=>by
  have tin:∀p∈ps,p.1∈hs/\p.2∈hs:=λp hp=>⟨(T.ties p hp).1,(T.ties p hp).2.1⟩
  have mem:=SW.mem T.goal tin s
  have w10:(x::a::q).length<=10:=Nat.le_trans (zV s.nd mem) T.ten
  have l1:(a::q).length+1<=10:=w10
  have ih:=Idle.marks I T s.tail.1
  have nd:hs.Nodup:=T.hs_nd
  rw[zk,zk,ih]
  have ea:∀t,zao hs lks' hds' x (a::q) t=zao hs lks hds x (a::q) t:=λt=>by
   unfold zao
   rw[show(a::q).headD ""=a from rfl,I.handed nd (mem a (List.mem_cons_of_mem _ List.mem_cons_self)) (by omega)]
   cases zv (a::q) (some x) (zO hs hds a) t with
   |none=>rfl
   |some t'=>
    show(if _ then _ else _)=(if _ then _ else _)
    rw[I.worth nd (mem x List.mem_cons_self) (zhD s) (by omega)]
  cases zk hs lks hds (a::q)with
  |none=>rfl
  |some t=>exact ea t
theorem Idle.due(I:Idle g hs lks hds lks' hds')(T:TownOk g hs ps lks hds){x:Str}(hx:x∈hs){ws:List (List Str)}(h:Due g hs ps lks hds x ws):Due g hs ps lks' hds' x ws:=by
 rcases h with⟨rfl,rfl⟩|⟨hg,ks,pw,mem,rfl⟩
 ·exact .inl ⟨rfl,rfl⟩
 ·refine .inr ⟨hg,ks,pw,λk=>?_,rfl⟩
  rw[mem]
  have tin:∀p∈ps,p.1∈hs/\p.2∈hs:=λp hp=>⟨(T.ties p hp).1,(T.ties p hp).2.1⟩
  have ek:∀r m,SW g ps (x::r)->kE (zO hs lks' x) (x::r,m)=kE (zO hs lks x) (x::r,m):=λr m s=>by
   have w10:(x::r).length<=10:=Nat.le_trans (zV s.nd (SW.mem T.goal tin s)) T.ten
   unfold kE wI
   rw[I.worth T.hs_nd hx hg (by show(x::r).length<=90;omega)]
  constructor
  ·rintro ⟨r,m,rfl,s,e⟩
   exact⟨r,m,(ek r m s).symm,s,by rw[I.marks T s];exact e⟩
  ·rintro ⟨r,m,rfl,s,e⟩
   exact⟨r,m,ek r m s,s,by rw[←I.marks T s];exact e⟩
end
end
section
variable{P:Program}{w:World}{K:PySem.W.Frag}{mg:Str->Option Value}{base:Heap}
theorem zbn{K:PySem.W.Frag}{a:Addr}{xs:List V}{lo hi:Option Int}{H:Hp}{Q:VK}(h:H a=some (.tup xs))(k:∀p H',H' p=some (.tup (zaY xs lo hi))->Same H H'->Q (.ref p) H'):zpl K (.ref a) lo hi H Q:=
 ⟨a,xs,rfl, .inl (.inl h),λz=>k a H (by rw[z];exact h) (Same.refl _),λp hp=>k p _ zb (Same.new hp)⟩
theorem zbV{K:PySem.W.Frag}{a b:Addr}{xs ys:List V}{H:Hp}{Q:VK}(ha:H a=some (.tup xs))(hb:H b=some (.tup ys))(hl:xs.length+ys.length<=1000)(k:∀p H',H' p=some (.tup (xs ++ys))->Same H H'->Q (.ref p) H'):znN K (.ref a) (.ref b) H Q:=
 ⟨a,b,xs,ys,rfl,rfl, .inl (.inl ha), .inl (.inl hb),Nat.le_of_lt (zn hl),λz=>k b H (by rw[z];exact hb) (Same.refl _),λ_ z=>k a H (by rw[z,List.append_nil];exact ha) (Same.refl _),λ_ _ p hp=>k p _ zb (Same.new hp)⟩
def cL:D:= .tup [.str "long", .int 99]
def nvE(two:Bool):List D:=if two=true then [cL, .tup [.str "not",cL]] else [cL]
theorem zlF{ws ms:List Str}{to:Option Str}(h:ws.length<=90):zbb ws ms to cL=false:=by
 show(if("long":Str)="not"then !zdh ws ms to (.int 99)else phB ws ms to "long" (.int 99))=false
 rw[if_neg (by decide +kernel)]
 unfold phB
 rw[if_neg (by decide +kernel),if_neg (by decide +kernel),if_neg (by decide +kernel),if_neg (by decide +kernel)]
 show decide ((99:Int)<(ws.length:Int))=false
 exact decide_eq_false (by omega)
theorem zje{b:Bool}{t:D}:Nv (.tup [.tup (nvE b),t]):=λws ms to h=>by
 show(nvE b).all (zbb ws ms to)=false
 unfold nvE
 cases b
 ·show (zbb ws ms to cL&&true)=false
  rw[zlF h];rfl
 ·show (zbb ws ms to cL&&(zbb ws ms to _&&true))=false
  rw[zlF h];rfl
theorem zfr{b:Bool}:zW (.tup (nvE b))=true:=by cases b<;>decide +kernel
theorem zlG{b:Bool}:zcl (.tup (nvE b))=false:=by cases b<;>decide +kernel
theorem zn8{b:Bool}{O:List Str}:zc0 O (.tup (nvE b))=true:=by
 have h1:zaa O cL=true:=by
  show(if("long":Str)="not"then zu O (.int 99)else zu O (.tup [.str "long", .int 99]))=true
  rw[if_neg (by decide +kernel)];rfl
 have h2:zaa O (.tup [.str "not",cL])=true:=by
  show(if("not":Str)="not"then zu O cL else zu O (.tup [.str "not",cL]))=true
  rw[if_pos rfl];rfl
 cases b
 ·show (zaa O cL&&true)=true
  rw[h1];rfl
 ·show (zaa O cL&&(zaa O (.tup [.str "not",cL])&&true))=true
  rw[h2,h1];rfl
theorem zlS{b:Bool}{t:D}(h:zad t=true):zQ (.tup [.tup (nvE b),t])=true:=by
 show(zW (.tup (nvE b))&&zad t&&!zcl (.tup (nvE b)))=true
 rw[zfr,h,zlG];rfl
theorem zn4{b:Bool}{t:D}(h:zbe t=true):zbh (.tup [.tup (nvE b),t])=true:=by
 show(zW (.tup (nvE b))&&zbe t)=true
 rw[zfr,h];rfl
theorem zfw{b:Bool}{t:D}{O:List Str}(h:zu O t=true):zbL O (.tup [.tup (nvE b),t])=true:=by
 show(zc0 O (.tup (nvE b))&&zu O t)=true
 rw[zn8,h];rfl
theorem zeu{p:D->Bool}{ds:List D}{k:Nat}{r:D}(h:ds.all p=true)(hr:p r=true):(ds.take k ++ [r]++ds.drop k).all p=true:=by
 rw[List.all_append,List.all_append,Bool.and_eq_true,Bool.and_eq_true]
 rw[←List.take_append_drop k ds,List.all_append,Bool.and_eq_true] at h
 exact⟨⟨h.1,by rw[List.all_cons,hr];rfl⟩,h.2⟩
def HLk(g:Str)(O:List Str)(x:Str)(d d':D):Prop:=za0 d'=true/\zaq O d'=true/\(x≠g->∃r1 r2 r,d= .tup (r1 ++r2)/\d'= .tup (r1 ++ [r]++r2)/\Nv r)
def HHd(O:List Str)(d d':D):Prop:=zbq d'=true/\zaq O d'=true/\∃r1 r2 r,d= .tup (r1 ++r2)/\d'= .tup (r1 ++ [r]++r2)/\Nv r
theorem zpb{g x:Str}{O:List Str}{ds:List D}{k:Nat}{b:Bool}{t:D}(l12:ds.length<=12)(h1:ds.all zQ=true)(h2:ds.all (zbL O)=true)(ht:zad t=true)(hp:zu O t=true):HLk g O x (.tup ds) (.tup (ds.take k ++ [.tup [.tup (nvE b),t]]++ds.drop k)):=by
 refine⟨?_,zeu h2 (zfw hp),λ_=>⟨ds.take k,ds.drop k,_,by rw[List.take_append_drop],rfl,zje⟩⟩
 show(decide ((ds.take k ++ [_]++ds.drop k).length<=90)&&_)=true
 rw[zeu h1 (zlS ht),Bool.and_true]
 refine decide_eq_true ?_
 rw[List.length_append,List.length_append,List.length_take,List.length_drop]
 show _+1+_<=90
 omega
theorem zoc{O:List Str}{ds:List D}{k:Nat}{b:Bool}{t:D}(l12:ds.length<=12)(h1:ds.all zbh=true)(h2:ds.all (zbL O)=true)(ht:zbe t=true)(hp:zu O t=true):HHd O (.tup ds) (.tup (ds.take k ++ [.tup [.tup (nvE b),t]]++ds.drop k)):=by
 refine⟨?_,zeu h2 (zfw hp),⟨ds.take k,ds.drop k,_,by rw[List.take_append_drop],rfl,zje⟩⟩
 show(decide ((ds.take k ++ [_]++ds.drop k).length<=90)&&_)=true
 rw[zeu h1 (zn4 ht),Bool.and_true]
 refine decide_eq_true ?_
 rw[List.length_append,List.length_append,List.length_take,List.length_drop]
 show _+1+_<=90
 omega
theorem zjt{g x:Str}{O:List Str}{d t:D}(hx:x=g)(ht:zad t=true)(hp:zu O t=true):HLk g O x d (.tup [.tup [.tup [],t]]):=by
 refine⟨?_,?_,λz=>absurd hx z⟩
 ·show (true&&((zW (.tup [])&&zad t&&!zcl (.tup []))&&true))=true
  rw[ht];rfl
 ·show ((zc0 O (.tup [])&&zu O t)&&true)=true
  rw[hp];rfl
end
section
variable{P:Program}{w:World}{K:PySem.W.Frag}{mg:Str->Option Value}{base:Heap}
theorem znL{H:Hp}{v:V}{g:Str}{hs:List Str}{ps:List (Str×Str)}{lks hds:List D}(h:Rep H v (zaB g hs ps lks hds)):ps.length<=1000:=by
 obtain⟨p,x1,x2,x3,x4,x5,rfl,hp,r1,r2,r3,r4,r5⟩:=zpr h
 obtain⟨_,_,_,_,_,b⟩:=r3.ofT
 rwa[List.length_map] at b
theorem zfa{H:Hp}{a:Addr}{n:Int}{us:List V}{ws:List (List Str)}(h:Hand H a n)(al:AtG zb0 H us ws):∀l,H l=some (.lst us)->l≠a:=λl e z=>by
 obtain⟨x,m,t,hH,_⟩:=h
 rw[z,hH] at e
 cases e
 have l3:ws.length=3:=al.1.symm
 obtain⟨b,z,_⟩:=al.2 0 (.int x) ws[0] rfl (List.getElem?_eq_getElem (by omega))
 cases z
theorem GL.keep{H0 H H':Hp}{hs:List Str}{ls:List Addr}{W:Str->List (List Str)}{a:Addr}{n:Int}(h:GL zb0 H0 H hs ls W)(hH:Hand H a n)(k:Keep a H H'):GL zb0 H0 H' hs ls W:=
 ⟨h.len,h.nd,λi l x e1 e2=>by
   obtain⟨⟨us,eu,au⟩,hn⟩:=h.at_ i l x e1 e2
   refine⟨⟨us,k _ _ (zfa hH au l eu) eu,AtG.mono au λb w e=>k _ _ (λz=>?_) e⟩,hn⟩
   obtain⟨x,m,t,hh,_⟩:=hH
   have e:H b=some (.tup (w.map V.str)):=e
   rw[z,hh] at e;cases e⟩
def zk1:Sp:=λvs H Q _=>∃(a:Addr) (n:Int) (v:V) (g:Str) (hs:List Str) (ps:List (Str×Str)) (lks hds:List D) (O:List Str),vs=[.ref a,v]/\Hand H a n/\n<2^36/\Rep H v (zaB g hs ps lks hds)/\TownOk g hs ps lks hds/\Pool hs lks hds O/\O.length<=13/\(∀d∈lks,∃ds,d= .tup ds/\ds.length<=12)/\(∀d∈hds,∃ds,d= .tup ds/\ds.length<=12)/\
 ∀(u:V) (lks' hds':List D) (O':List Str) (H':Hp),Rep H' u (zaB g hs ps lks' hds')->TownOk g hs ps lks' hds'->Pool hs lks' hds' O'->Idle g hs lks hds lks' hds'->Hand H' a (n+80)->Keep a H H'->Q u H'
theorem zco{O O':List Str}(h:∀x∈O,x∈O'){d:D}(hd:zu O d=true):zu O' d=true:=by
 unfold zu at *
 split at hd
 ·rename_i x
  exact decide_eq_true (h x (of_decide_eq_true hd))
 ·rfl
theorem zhn{O O':List Str}(h:∀x∈O,x∈O'){d:D}(hd:zaa O d=true):zaa O' d=true:=by
 unfold zaa at *
 split at hd
 ·rename_i w e
  show(if w="not"then zu O' e else zu O' (.tup [.str w,e]))=true
  by_cases z:w="not"
  ·rw[if_pos z] at hd⊢;exact zco h hd
  ·rw[if_neg z] at hd⊢;exact zco h hd
 ·rfl
theorem zhg{O O':List Str}(h:∀x∈O,x∈O'){d:D}(hd:zbL O d=true):zbL O' d=true:=by
 unfold zbL at *
 split at hd
 ·rename_i c t
  show(zc0 O' c&&zu O' t)=true
  obtain⟨h1,h2⟩:=(Bool.and_eq_true _ _).mp hd
  rw[zco h h2,Bool.and_true]
  unfold zc0 at *
  split at h1
  ·rename_i ds
   exact List.all_eq_true.mpr λc hc=>zhn h (List.all_eq_true.mp h1 c hc)
  ·rfl
 ·rfl
theorem zfF{O O':List Str}(h:∀x∈O,x∈O'){ds:List D}(hd:zaq O (.tup ds)=true):ds.all (zbL O')=true:=
 List.all_eq_true.mpr λr hr=>zhg h (List.all_eq_true.mp hd r hr)
theorem zn2:zh "x"=true:=by decide +kernel
end
section
variable{P:Program}{w:World}{K:PySem.W.Frag}{mg:Str->Option Value}{base:Heap}
structure Cur(HX:Hp)(ll lh a:Addr)(us1 us2:List V)(m:Int)(Hk:Hp):Prop where
 mono:Mono HX Hk
 l1:Hk ll=some (.lst us1)
 l2:Hk lh=some (.lst us2)
 hand:Hand Hk a m
 kp:∀c o,c≠a->c≠ll->c≠lh->HX c=some o->Hk c=some o
theorem Cur.same{HX:Hp}{ll lh a:Addr}{us1 us2:List V}{m:Int}{Hk Hk':Hp}(c:Cur HX ll lh a us1 us2 m Hk)(s:Same Hk Hk'):Cur HX ll lh a us1 us2 m Hk':=⟨c.1.trans (.of s),s _ _ c.2,s _ _ c.3,c.4.same s,λe o h1 h2 h3 h=>s _ _ (c.5 e o h1 h2 h3 h)⟩
theorem Cur.keep{HX:Hp}{ll lh a:Addr}{us1 us2:List V}{m m':Int}{Hk Hk':Hp}(c:Cur HX ll lh a us1 us2 m Hk)(nl:ll≠a)(nh:lh≠a)(k:Keep a Hk Hk')(h:Hand Hk' a m'):Cur HX ll lh a us1 us2 m' Hk':=⟨c.1.trans (.keep k c.4 h),k _ _ nl c.2,k _ _ nh c.3,h,λe o h1 h2 h3 x=>k _ _ h1 (c.5 e o h1 h2 h3 x)⟩
theorem zm0(Y:Ev K mg):FnOk P w K mg base CX0 3 Y.a__law_idle Y.d__law_idle zbI zk1:=by
 have G__law_take:FnOk P w K mg base CX0 1 Y.a__law_take Y.d__law_take zN zcs:=zb2 Y
 have G__law_pick:FnOk P w K mg base CX0 2 Y.a__law_pick Y.d__law_pick zM (zbM K):=zb1 Y
 refine Y._law_idle.fn.okQ c__law_idle (λvs H Q E h=>?_) (λcdv A outer s H vs Q E hr h=>?_)
 ·obtain ⟨a,n,v,g,hs,ps,lks,hds,O,rfl,_⟩:=h;rfl
 ·obtain ⟨a,n,v,g,hs,ps,lks,hds,O,rfl,hH,hn,hv,T,PO,O13,l12,h12,q⟩:=h
  have hv':=hv
  obtain⟨p,pr,pt,pl,pa,vt,vl,va,rfl,hp,hpr,hpt,rt,hpl,rl,hpa,ra⟩:=zbv hv'
  have T10:=T.ten
  have lvl:vl.length=hs.length:=by rw[rl.1,T.ll]
  have lva:va.length=hs.length:=by rw[ra.1,T.lh]
  have nea:∀{H':Hp} {m:Int},Hand H' a m->∀c xs,H' c=some (.tup xs)->c≠a:=λh c xs e z=>by
   obtain⟨x,m,t,hH,_⟩:=h
   rw[z,hH] at e;cases e
  refine⟨_,(zg (zB 2 c__law_idle.nd (zc3 zaH (zD (za (zD (za zav (za zf zc))) (za (zD (za zav (za (zD (za zav (za zf zc))) zc))) zc))) zaQ (zaO (zJ zab zf (zj G__law_take (hr.mono (by decide)) Y._law_take.mg Y._law_take.kp Y._law_take.b .nil zo (za (qv 0) (za zf zc)))))))
   (zg (zhF 3 4 c__law_idle.nd (za (zbN zc) (za (zbN zc) zc)))
   (zg (zbx PassesOwn.never rfl (zox Y.zip (za (zT ix_tup (qv 1) zf) (za (zT ix_tup (qv 1) zf) (za (zT ix_tup (qv 1) zf) zc)))) (zda 3 rfl (zH (zt 5 c__law_idle.nd) (zH (zt 6 c__law_idle.nd) (zH (zt 7 c__law_idle.nd) zbK)))) (zg (zhF 8 9 c__law_idle.nd (za (zj G__law_take (hr.mono (by decide)) Y._law_take.mg Y._law_take.kp Y._law_take.b .nil zo (za (qv 0) (za (zJ zab (zz z8 Y.len zbs (za (qv 6) zc)) zf) zc))) (za (zj G__law_take (hr.mono (by decide)) Y._law_take.mg Y._law_take.kp Y._law_take.b .nil zo (za (qv 0) (za (zJ zab (zz z8 Y.len zbs (za (qv 7) zc)) zf) zc))) zc)))
   (zg (zdc (zgk PySem.F.plainAttrs_list PySem.F.slot_list_append PySem.F.type_list_append zaD (qv 3) (za (zJ zbt (zJ zbt (zc3 zaH (qv 6) zaQ (zaO (qv 8))) (zD (za (zD (za (qv 2) (za (zj G__law_pick (hr.mono (by decide)) Y._law_pick.mg Y._law_pick.kp Y._law_pick.b .nil zo (za (qv 0) (za (zbN (za zcz (za zf zc))) zc))) zc))) zc))) (zc3 zaH (qv 6) (zaO (qv 8)) zaQ)) zc)))
   (zg (zdc (zgk PySem.F.plainAttrs_list PySem.F.slot_list_append PySem.F.type_list_append zaD (qv 4) (za (zJ zbt (zJ zbt (zc3 zaH (qv 7) zaQ (zaO (qv 9))) (zD (za (zD (za (qv 2) (za (zj G__law_pick (hr.mono (by decide)) Y._law_pick.mg Y._law_pick.kp Y._law_pick.b .nil zo (za (qv 0) (za (zbN (za (zD (za zav zc)) (za (zD (za zav (za zav zc))) zc))) zc))) zc))) zc))) (zc3 zaH (qv 7) (zaO (qv 9)) zaQ)) zc)))
   (zm (zas (zI zak (qv 5) (zT ix_tup (qv 1) zf)) (zm (zd6 (zD (za (zD (za (zD zc) (za (zj G__law_pick (hr.mono (by decide)) Y._law_pick.mg Y._law_pick.kp Y._law_pick.b .nil zo (za (qv 0) (za (zbN (za zcz (za zf zc))) zc))) zc))) zc)) (zi3 (qv 3) (zju zdW zf) zdA))) zS))))))
   (zm (zx (zJ zbt (zc3 zaH (qv 1) zaQ (zaO zf)) (zD (za (zX zG Y.tuple zax (za (qv 3) zc)) (za (zX zG Y.tuple zax (za (qv 4) zc)) zc))))))))),?_⟩
  refine⟨few rfl,λp1 hp1=>⟨few rfl,λp2 hp2=>⟨few rfl,λp3 hp3=>⟨few rfl,λp4 hp4=>?_⟩⟩⟩⟩
  have S1:=Same.new (o:= .tup [V.str "long", .int 99]) hp1
  have S2:=Same.new (o:= .tup [V.str "long", .int 99]) hp2
  have S3:=Same.new (o:= .tup [V.str "not", .ref p2]) hp3
  have S4:=Same.new (o:= .tup [V.ref p1, .ref p3]) hp4
  have rC:∀{H':Hp} {c:Addr},H' c=some (.tup [V.str "long", .int 99])->Rep H' (.ref c) cL:=λe=> .mkL (vs:=[V.str "long", .int 99]) e (Nat.le_of_ble_eq_true rfl) (.cons (.str _ (by decide +kernel)) (.cons (.int _) .nil))
  have rep1:=rC (S4 _ _ (S3 _ _ (S2 _ _ (zb (H:=H) (a:=p1) (o:= .tup [V.str "long", .int 99])))))
  have rep3:Rep (upd (upd (upd (upd H p1 (.tup [V.str "long", .int 99])) p2 (.tup [V.str "long", .int 99])) p3 (.tup [V.str "not", .ref p2])) p4 (.tup [V.ref p1, .ref p3])) (.ref p3) (.tup [.str "not",cL]):= .mkL (vs:=[V.str "not", .ref p2]) (S4 _ _ zb) (Nat.le_of_ble_eq_true rfl) (.cons (.str _ (by decide +kernel)) (.cons (rC (S4 _ _ (S3 _ _ zb))) .nil))
  have e4:=zb (H:=upd (upd (upd H p1 (.tup [V.str "long", .int 99])) p2 (.tup [V.str "long", .int 99])) p3 (.tup [V.str "not", .ref p2])) (a:=p4) (o:= .tup [V.ref p1, .ref p3])
  have hH4:Hand (upd (upd (upd (upd H p1 (.tup [V.str "long", .int 99])) p2 (.tup [V.str "long", .int 99])) p3 (.tup [V.str "not", .ref p2])) p4 (.tup [V.ref p1, .ref p3])) a n:=(((hH.new hp1).new hp2).new hp3).new hp4
  have s04:=((S1.trans S2).trans S3).trans S4
  generalize (upd (upd (upd (upd H p1 (.tup [V.str "long", .int 99])) p2 (.tup [V.str "long", .int 99])) p3 (.tup [V.str "not", .ref p2])) p4 (.tup [V.ref p1, .ref p3]))=H4 at *
  refine⟨_,rfl,a,2,n,rfl,hH4,by omega,by decide,by decide,λd0 H5 h0 h1 hH5 k5=>?_⟩
  refine⟨_,_,rfl,rfl,_,rfl,?_⟩
  refine zbn (K:=K) (k5 _ _ (nea hH4 _ _ e4) e4) λpn H6 e6 s6=>?_
  have m46:Mono H4 H6:=(Mono.keep k5 hH4 hH5).trans (.of s6)
  obtain⟨b,hb⟩:∃b,RepL H6 (zaY [V.ref p1, .ref p3] none (some (1+d0))) (nvE b):=by
   have:d0=0\/d0=1:=by omega
   rcases this with rfl|rfl
   ·refine ⟨false,?_⟩
    rw[show(1+0:Int)=((1:Nat):Int)from rfl,za8]
    exact .cons (rep1.mono m46) .nil
   ·refine ⟨true,?_⟩
    rw[show(1+1:Int)=((2:Nat):Int)from rfl,za8]
    exact .cons (rep1.mono m46) (.cons (rep3.mono m46) .nil)
  have rn6:Rep H6 (.ref pn) (.tup (nvE b)):= .mkL e6 (by cases b<;>exact Nat.le_of_ble_eq_true rfl) hb
  have hH6:=hH5.same s6
  have k06:Keep a H H6:=(Keep.of s04).trans (k5.trans (Keep.of s6))
  refine⟨few rfl,λll hll=>⟨few rfl,λlh hlh=>⟨_,_,rfl,?_⟩⟩⟩
  have S7:=Same.new (o:= .lst []) hll
  have S8:=Same.new (o:= .lst []) hlh
  have ell:=S8 _ _ (zb (H:=H6) (a:=ll) (o:= .lst []))
  have elh:=zb (H:=upd H6 ll (.lst [])) (a:=lh) (o:= .lst [])
  have hH8:Hand (upd (upd H6 ll (.lst [])) lh (.lst [])) a (n+1):=(hH6.new hll).new hlh
  have nla:ll≠a:=hH6.ne hll
  have nha:lh≠a:=(hH6.new (o:= .lst []) hll).ne hlh
  have nlh:ll≠lh:=λz=>by rw[←z,zb] at hlh;cases hlh
  have s68:=S7.trans S8
  have m08:Mono H (upd (upd H6 ll (.lst [])) lh (.lst [])):=(Mono.of s04).trans (m46.trans (.of s68))
  have rn8:=rn6.same s68
  have k08:Keep a H (upd (upd H6 ll (.lst [])) lh (.lst [])):=k06.trans (Keep.of s68)
  have llN:H ll=none:=by
   cases e:H ll with
   |none=>rfl
   |some o=>have:=k06 _ _ nla e;rw[hll] at this;cases this
  have lhN:H lh=none:=by
   cases e:H lh with
   |none=>rfl
   |some o=>have:=(k06.trans (Keep.of S7)) _ _ nha e;rw[hlh] at this;cases this
  generalize (upd (upd H6 ll (.lst [])) lh (.lst []))=H8 at *
  have ntl:∀c xs,H c=some (.tup xs)->c≠a/\c≠ll/\c≠lh:=λc xs e=>⟨nea hH c xs e,zi e llN,zi e lhN⟩
  have up8:∀c xs,H c=some (.tup xs)->H8 c=some (.tup xs):=λc xs e=>k08 _ _ (ntl c xs e).1 e
  refine⟨_,rfl,p,_,1,_,rfl,rfl, .inl (.inl (up8 _ _ hp)),at1,_,rfl,p,_,3,_,rfl,rfl, .inl (.inl (up8 _ _ hp)),zU (j:=3) rfl,_,rfl,p,_,4,_,rfl,rfl, .inl (.inl (up8 _ _ hp)),zU (j:=4) rfl,pr,pl,pa,hs.map V.str,vl,va,hs.length,rfl,⟨up8 _ _ hpr,up8 _ _ hpl,up8 _ _ hpa,by rw[List.length_map],lvl,lva⟩,?_⟩
  obtain⟨O',eO⟩:∃O':List Str,O'=("x":Str)::O:=⟨_,rfl⟩
  have xO:("x":Str)∈O':=by rw[eO];exact List.mem_cons_self
  have OO:∀y∈O,y∈O':=λy hy=>by rw[eO];exact List.mem_cons_of_mem _ hy
  have O14:O'.length<=14:=by rw[eO];show O.length+1<=14;omega
  have On:∀y∈O',zh y=true:=λy hy=>by
   rw[eO] at hy
   rcases List.mem_cons.mp hy with rfl|hy
   ·exact zn2
   ·exact PO.nm y hy
  refine zfY (n:=hs.length) (λi σ' H'=>(∃o5 o6 o7 o8 o9,σ'=[some (.ref a),some (.ref p),some (.ref pn),some (.ref ll),some (.ref lh),o5,o6,o7,o8,o9])/\(∃us1 us2 L1 L2,H' ll=some (.lst us1)/\H' lh=some (.lst us2)/\RepL H' us1 L1/\RepL H' us2 L2/\L1.length=i/\L2.length=i/\(∀(j:Nat) (x:Str) (d d':D),hs[j]?=some x->lks[j]?=some d->L1[j]?=some d'->HLk g O' x d d')/\(∀(j:Nat) (d d':D),hds[j]?=some d->L2[j]?=some d'->HHd O' d d'))/\Rep H' (.ref pn) (.tup (nvE b))/\Hand H' a (n+1+6*(i:Int))/\Mono H H'/\Keep a H H') ?_ ?_ ?_ ?_ ?_
  ·exact ⟨⟨_,_,_,_,_,rfl⟩,⟨[],[],[],[],ell,elh,RepL.nil,RepL.nil,rfl,rfl,(λj x d d' _ _ e=>by cases e),(λj d d' _ e=>by cases e)⟩,rn8,hH8.mono (by omega),m08,k08⟩
  ·rintro i σ' H' hi ⟨_,_,_,_,mm,_⟩
   have t':=mm.tup
   exact⟨hi,_,_,_,t' _ _ hpr,t' _ _ hpl,t' _ _ hpa,by rw[List.length_map],lvl,lva⟩
  ·rintro σ' H' ⟨_,_,_,_,mm,_⟩
   have t':=mm.tup
   exact⟨Nat.le_refl _,_,_,_,t' _ _ hpr,t' _ _ hpl,t' _ _ hpa,by rw[List.length_map],lvl,lva⟩
  ·rintro i y0 σ' H9 H10 hi ⟨⟨o5,o6,o7,o8,o9,rfl⟩,⟨us1,us2,L1,L2,e1,e2,r1,r2,n1,n2,g1,g2⟩,rn9,hH9,m9,k9⟩ ⟨Tt,xs',ys',zs',u,v,w',tri,rfl,hT,hu,hv1,hw1,rfl⟩
   have t9:=m9.tup
   have ex:xs'=hs.map V.str:=by have:=tri.1;rw[t9 _ _ hpr] at this;cases this;rfl
   have ey:ys'=vl:=by have:=tri.2.1;rw[t9 _ _ hpl] at this;cases this;rfl
   have ez:zs'=va:=by have:=tri.2.2.1;rw[t9 _ _ hpa] at this;cases this;rfl
   subst ex ey ez
   obtain⟨x,exx⟩:∃x,hs[i]?=some x:=⟨_,List.getElem?_eq_getElem hi⟩
   rw[List.getElem?_map,exx] at hu
   cases hu
   obtain⟨dl,edl,rdl⟩:=rl.get hv1
   obtain⟨dh,edh,rdh⟩:=ra.get hw1
   obtain⟨ds,rfl,ds12⟩:=l12 dl (List.mem_of_getElem? edl)
   obtain⟨es,rfl,es12⟩:=h12 dh (List.mem_of_getElem? edh)
   obtain⟨q1,v1,ev1,hq1,rq1,_⟩:=(rdl.mono m9).ofT
   obtain⟨q2,v2,ev2,hq2,rq2,_⟩:=(rdh.mono m9).ofT
   subst ev1 ev2
   have lv1:v1.length<=12:=by rw[rq1.1];exact ds12
   have lv2:v2.length<=12:=by rw[rq2.1];exact es12
   have ST:=Same.new (o:= .tup [V.str x, .ref q1, .ref q2]) hT
   have eT:=zb (H:=H9) (a:=Tt) (o:= .tup [V.str x, .ref q1, .ref q2])
   have cX:Cur H9 ll lh a us1 us2 (n+1+6*(i:Int)) (upd H9 Tt (.tup [V.str x, .ref q1, .ref q2])):=Cur.same ⟨Mono.refl _,e1,e2,hH9,λ_ _ _ _ _ e=>e⟩ ST
   generalize (upd H9 Tt (.tup [V.str x, .ref q1, .ref q2]))=HX at *
   refine⟨Tt,_,rfl, .inl (.inl eT),rfl,_,_,rfl,_,_,rfl,_,_,rfl,rfl,?_⟩
   refine⟨_,rfl,_,rfl, .inl ⟨q1,v1,rfl, .inr (.inl (.inl (cX.1.tup _ _ hq1))),_,_,rfl,rfl,a,_,_,rfl,cX.4,by omega,by omega,by omega,λk1 Ha ka0 ka1 hHa kka=>?_⟩⟩
   have cA:=cX.keep nla nha kka hHa
   refine⟨_,rfl,_,rfl, .inl ⟨q2,v2,rfl, .inr (.inl (.inl (cA.1.tup _ _ hq2))),_,_,rfl,rfl,a,_,_,rfl,cA.4,by omega,by omega,by omega,λk2 Hb kb0 kb1 hHb kkb=>?_⟩⟩
   have cB:=cA.keep nla nha kkb hHb
   obtain⟨k1,rfl⟩:∃m:Nat,k1=(m:Int):=⟨k1.toNat,by omega⟩
   obtain⟨k2,rfl⟩:∃m:Nat,k2=(m:Int):=⟨k2.toNat,by omega⟩
   refine⟨_,_,rfl,?_⟩
   have i10:i<=10:=by omega
   have lu1:us1.length=i:=by rw[r1.1,n1]
   have lu2:us2.length=i:=by rw[r2.1,n2]
   refine⟨_,rfl, .inl ⟨rfl,_,SqL.of cB.2⟩,_,rfl,_,rfl,_,rfl,?_⟩
   refine zbn (K:=K) (cB.1.tup _ _ hq1) λpA HA eA sA=>?_
   rw[za8] at eA
   have cC:=cB.same sA
   refine⟨_,rfl,_,rfl,few rfl,λpk hpk=>?_⟩
   have Sk:=Same.new (o:= .lst [V.non, .int 999]) hpk
   have epk:=zb (H:=HA) (a:=pk) (o:= .lst [V.non, .int 999])
   have cD:=cC.same Sk
   have eAD:=Sk _ _ eA
   have npk:pk≠a:=cC.4.ne hpk
   generalize (upd HA pk (.lst [V.non, .int 999]))=HD at *
   refine⟨a,_,cD.4,by omega, .inl ⟨pk,_,rfl,npk,SqL.of epk,by decide,by decide,λw1 HE hw1 hHE kE=>?_⟩⟩
   have cE:=cD.keep nla nha kE hHE
   have eAE:=kE _ _ (nea cD.4 _ _ eAD) eAD
   obtain⟨t1,rw1,wt1,wp1⟩:∃t1,Rep HE w1 t1/\zad t1=true/\zu O' t1=true:=by
    simp only[List.mem_cons,List.not_mem_nil,or_false] at hw1
    rcases hw1 with rfl|rfl
    ·exact ⟨.non, .non,rfl,rfl⟩
    ·exact ⟨.int 999, .int _,by decide,rfl⟩
   refine⟨few rfl,λa1 ha1=>⟨few rfl,λa2 ha2=>?_⟩⟩
   have Sa1:=Same.new (o:= .tup [V.ref pn,w1]) ha1
   have Sa2:=Same.new (o:= .tup [V.ref a1]) ha2
   have cF:=cE.same (Sa1.trans Sa2)
   have ra1:Rep (upd (upd HE a1 (.tup [V.ref pn,w1])) a2 (.tup [V.ref a1])) (.ref a1) (.tup [.tup (nvE b),t1]):= .mkL (vs:=[V.ref pn,w1]) (Sa2 _ _ zb) (Nat.le_of_ble_eq_true rfl) (.cons ((rn9.mono cE.1).same (Sa1.trans Sa2)) (.cons (rw1.same (Sa1.trans Sa2)) .nil))
   have ea2:=zb (H:=upd HE a1 (.tup [V.ref pn,w1])) (a:=a2) (o:= .tup [V.ref a1])
   have eAF:=(Sa1.trans Sa2) _ _ eAE
   generalize (upd (upd HE a1 (.tup [V.ref pn,w1])) a2 (.tup [V.ref a1]))=HF at *
   refine zbV (K:=K) eAF ea2 (by rw[List.length_take];show _+1<=1000;omega) λpB HG eB sB=>?_
   have cG:=cF.same sB
   refine⟨_,rfl,_,rfl,_,rfl,?_⟩
   dsimp only[zen]
   refine zbn (K:=K) (cG.1.tup _ _ hq1) λpC HI eC sC=>?_
   rw[zby] at eC
   have cI:=cG.same sC
   refine zbV (K:=K) (sC _ _ eB) eC (by rw[List.length_append,List.length_take,List.length_drop];show _+1+_<=1000;omega) λpD HJ eD sD=>?_
   have cJ:=cI.same sD
   have rqJ:=rq1.mono cJ.1
   have repD:Rep HJ (.ref pD) (.tup (ds.take k1 ++ [.tup [.tup (nvE b),t1]]++ds.drop k1)):= .mkL eD (by rw[List.length_append,List.length_append,List.length_take,List.length_drop];show _+1+_<=1000;omega) (.append (.append (rqJ.take k1) (.cons (ra1.same ((sB.trans sC).trans sD)) .nil)) (rqJ.drop k1))
   refine⟨ll,us1,_,rfl,rfl,cJ.2,zn (by omega),?_⟩
   have mK:Mono HJ (upd HJ ll (.lst (us1 ++ [.ref pD]))):= .lset cJ.2
   have cK:Cur H9 ll lh a (us1 ++ [.ref pD]) us2 (n+1+6*(i:Int)+1+1+1) (upd HJ ll (.lst (us1 ++ [.ref pD]))):=⟨cJ.1.trans mK,zb,by rw[ze nlh.symm];exact cJ.3,cJ.4.updNe nla,λe o h1 h2 h3 x=>by rw[ze h2];exact cJ.5 e o h1 h2 h3 x⟩
   have repK:=repD.mono mK
   have hlk:HLk g O' x (.tup ds) (.tup (ds.take k1 ++ [.tup [.tup (nvE b),t1]]++ds.drop k1)):=by
    have hL:=T.likes _ (List.mem_of_getElem? edl)
    have hL:(decide (ds.length<=90)&&ds.all zQ)=true:=hL
    exact zpb ds12 ((Bool.and_eq_true _ _).mp hL).2 (zfF OO (PO.lk _ (List.mem_of_getElem? edl))) wt1 wp1
   clear eAF eA eB eC eD ea2 ra1 repD
   generalize (upd HJ ll (.lst (us1 ++ [.ref pD])))=HK at *
   generalize (.tup (ds.take k1 ++ [.tup [.tup (nvE b),t1]]++ds.drop k1):D)=dl' at *
   refine⟨_,rfl, .inl ⟨rfl,_,SqL.of cK.3⟩,_,rfl,_,rfl,_,rfl,?_⟩
   refine zbn (K:=K) (cK.1.tup _ _ hq2) λpA HA eA sA=>?_
   rw[za8] at eA
   have cC:=cK.same sA
   refine⟨_,rfl,_,rfl,few rfl,λb1 hb1=>⟨few rfl,λb2 hb2=>⟨few rfl,λpk hpk=>?_⟩⟩⟩
   have Sb1:=Same.new (o:= .tup [V.str "keep"]) hb1
   have Sb2:=Same.new (o:= .tup [V.str "put", .str "x"]) hb2
   have Sk:=Same.new (o:= .lst [V.ref b1, .ref b2]) hpk
   have sAD:=(Sb1.trans Sb2).trans Sk
   have epk:=zb (H:=upd (upd HA b1 (.tup [V.str "keep"])) b2 (.tup [V.str "put", .str "x"])) (a:=pk) (o:= .lst [V.ref b1, .ref b2])
   have rb1:Rep (upd (upd (upd HA b1 (.tup [V.str "keep"])) b2 (.tup [V.str "put", .str "x"])) pk (.lst [V.ref b1, .ref b2])) (.ref b1) (.tup [.str "keep"]):= .mkL (vs:=[V.str "keep"]) (Sk _ _ (Sb2 _ _ zb)) (Nat.le_of_ble_eq_true rfl) (.cons (.str _ (by decide +kernel)) .nil)
   have rb2:Rep (upd (upd (upd HA b1 (.tup [V.str "keep"])) b2 (.tup [V.str "put", .str "x"])) pk (.lst [V.ref b1, .ref b2])) (.ref b2) (.tup [.str "put", .str "x"]):= .mkL (vs:=[V.str "put", .str "x"]) (Sk _ _ zb) (Nat.le_of_ble_eq_true rfl) (.cons (.str _ (by decide +kernel)) (.cons (.str _ (by decide +kernel)) .nil))
   have cD:=cC.same sAD
   have eAD:=sAD _ _ eA
   have npk:pk≠a:=(cC.same (Sb1.trans Sb2)).4.ne hpk
   generalize (upd (upd (upd HA b1 (.tup [V.str "keep"])) b2 (.tup [V.str "put", .str "x"])) pk (.lst [V.ref b1, .ref b2]))=HD at *
   refine⟨a,_,cD.4,by omega, .inl ⟨pk,_,rfl,npk,SqL.of epk,Nat.succ_pos _,(by show 2<1000;omega),λw1 HE hw1 hHE kE=>?_⟩⟩
   have cE:=cD.keep nla nha kE hHE
   have mDE:Mono HD HE:= .keep kE cD.4 hHE
   have eAE:=kE _ _ (nea cD.4 _ _ eAD) eAD
   obtain⟨t1,rw1,wt1,wp1⟩:∃t1,Rep HE w1 t1/\zbe t1=true/\zu O' t1=true:=by
    simp only[List.mem_cons,List.not_mem_nil,or_false] at hw1
    rcases hw1 with rfl|rfl
    ·exact ⟨_,rb1.mono mDE,by decide +kernel,rfl⟩
    ·exact ⟨_,rb2.mono mDE,by decide +kernel,decide_eq_true xO⟩
   refine⟨few rfl,λa1 ha1=>⟨few rfl,λa2 ha2=>?_⟩⟩
   have Sa1:=Same.new (o:= .tup [V.ref pn,w1]) ha1
   have Sa2:=Same.new (o:= .tup [V.ref a1]) ha2
   have cF:=cE.same (Sa1.trans Sa2)
   have ra1:Rep (upd (upd HE a1 (.tup [V.ref pn,w1])) a2 (.tup [V.ref a1])) (.ref a1) (.tup [.tup (nvE b),t1]):= .mkL (vs:=[V.ref pn,w1]) (Sa2 _ _ zb) (Nat.le_of_ble_eq_true rfl) (.cons ((rn9.mono cE.1).same (Sa1.trans Sa2)) (.cons (rw1.same (Sa1.trans Sa2)) .nil))
   have ea2:=zb (H:=upd HE a1 (.tup [V.ref pn,w1])) (a:=a2) (o:= .tup [V.ref a1])
   have eAF:=(Sa1.trans Sa2) _ _ eAE
   have sEF:=Sa1.trans Sa2
   generalize (upd (upd HE a1 (.tup [V.ref pn,w1])) a2 (.tup [V.ref a1]))=HF at *
   refine zbV (K:=K) eAF ea2 (by rw[List.length_take];show _+1<=1000;omega) λpB HG eB sB=>?_
   have cG:=cF.same sB
   refine⟨_,rfl,_,rfl,_,rfl,?_⟩
   dsimp only[zen]
   refine zbn (K:=K) (cG.1.tup _ _ hq2) λpC HI eC sC=>?_
   rw[zby] at eC
   have cI:=cG.same sC
   refine zbV (K:=K) (sC _ _ eB) eC (by rw[List.length_append,List.length_take,List.length_drop];show _+1+_<=1000;omega) λpE HM eD sD=>?_
   have cM:=cI.same sD
   have rqM:=rq2.mono cM.1
   have repE:Rep HM (.ref pE) (.tup (es.take k2 ++ [.tup [.tup (nvE b),t1]]++es.drop k2)):= .mkL eD (by rw[List.length_append,List.length_append,List.length_take,List.length_drop];show _+1+_<=1000;omega) (.append (.append (rqM.take k2) (.cons (ra1.same ((sB.trans sC).trans sD)) .nil)) (rqM.drop k2))
   refine⟨lh,us2,_,rfl,rfl,cM.3,zn (by omega),?_⟩
   have mN:Mono HM (upd HM lh (.lst (us2 ++ [.ref pE]))):= .lset cM.3
   have cN:Cur H9 ll lh a (us1 ++ [.ref pD]) (us2 ++ [.ref pE]) (n+1+6*(i:Int)+1+1+1+1) (upd HM lh (.lst (us2 ++ [.ref pE]))):=⟨cM.1.trans mN,by rw[ze nlh];exact cM.2,zb,cM.4.updNe nha,λe o h1 h2 h3 x=>by rw[ze h3];exact cM.5 e o h1 h2 h3 x⟩
   have mKN:Mono HK (upd HM lh (.lst (us2 ++ [.ref pE]))):=((((Mono.of (sA.trans sAD)).trans mDE).trans (.of ((sEF.trans sB).trans (sC.trans sD))))).trans mN
   have repE':=repE.mono mN
   have repD':=repK.mono mKN
   have hhd:HHd O' (.tup es) (.tup (es.take k2 ++ [.tup [.tup (nvE b),t1]]++es.drop k2)):=by
    have hL:=T.hands _ (List.mem_of_getElem? edh)
    have hL:(decide (es.length<=90)&&es.all zbh)=true:=hL
    exact zoc es12 ((Bool.and_eq_true _ _).mp hL).2 (zfF OO (PO.hd _ (List.mem_of_getElem? edh))) wt1 wp1
   generalize (upd HM lh (.lst (us2 ++ [.ref pE])))=HN at *
   generalize (.tup (es.take k2 ++ [.tup [.tup (nvE b),t1]]++es.drop k2):D)=dh' at *
   have fin:∀(Hk:Hp) (uL:V) (dL:D),Cur H9 ll lh a (us1 ++ [uL]) (us2 ++ [.ref pE]) (n+1+6*((i+1:Nat):Int)) Hk->Rep Hk uL dL->HLk g O' x (.tup ds) dL->Rep Hk (.ref pE) dh'->(∃us1 us2 L1 L2,Hk ll=some (.lst us1)/\Hk lh=some (.lst us2)/\RepL Hk us1 L1/\RepL Hk us2 L2/\L1.length=i+1/\L2.length=i+1/\(∀(j:Nat) (x:Str) (d d':D),hs[j]?=some x->lks[j]?=some d->L1[j]?=some d'->HLk g O' x d d')/\(∀(j:Nat) (d d':D),hds[j]?=some d->L2[j]?=some d'->HHd O' d d'))/\Rep Hk (.ref pn) (.tup (nvE b))/\Hand Hk a (n+1+6*((i+1:Nat):Int))/\Mono H Hk/\Keep a H Hk:=λHk uL dL c rL hL rE=>by
    refine⟨⟨_,_,L1 ++ [dL],L2 ++ [dh'],c.2,c.3, .append (r1.mono c.1) (.cons rL .nil), .append (r2.mono c.1) (.cons rE .nil),by rw[List.length_append,n1];rfl,by rw[List.length_append,n2];rfl,λj y d d' ey ed ed'=>?_,λj d d' ed ed'=>?_⟩,rn9.mono c.1,c.4,m9.trans c.1,λe o h1 x=>c.5 e o h1 (zi x llN) (zi x lhN) (k9 e o h1 x)⟩
    ·rcases Nat.lt_or_ge j L1.length with z|z
     ·rw[List.getElem?_append_left z] at ed'
      exact g1 j y d d' ey ed ed'
     ·rw[List.getElem?_append_right z] at ed'
      cases hk:j -L1.length with
      |zero=>
       rw[hk] at ed'
       cases ed'
       have:j=i:=by omega
       subst this
       rw[exx] at ey
       rw[edl] at ed
       cases ey
       cases ed
       exact hL
      |succ k=>rw[hk] at ed';cases ed'
    ·rcases Nat.lt_or_ge j L2.length with z|z
     ·rw[List.getElem?_append_left z] at ed'
      exact g2 j d d' ed ed'
     ·rw[List.getElem?_append_right z] at ed'
      cases hk:j -L2.length with
      |zero=>
       rw[hk] at ed'
       cases ed'
       have:j=i:=by omega
       subst this
       rw[edh] at ed
       cases ed
       exact hhd
      |succ k=>rw[hk] at ed';cases ed'
   refine⟨_,rfl,_,rfl,p,_,0,_,rfl,rfl, .inl (.inl ((m9.trans cN.1).tup _ _ hp)),at0,rfl,_,rfl,zbS (λhc=>?_) (λhc=>?_)⟩
   ·have eg:x=g:=by simpa using hc
    refine⟨few rfl,λz0 hz0=>⟨_,rfl,few rfl,λpk hpk=>?_⟩⟩
    have Sz:=Same.new (o:= .tup []) hz0
    have Sk:=Same.new (o:= .lst [V.non, .int 7]) hpk
    have ez:=Sk _ _ (zb (H:=HN) (a:=z0) (o:= .tup []))
    have epk:=zb (H:=upd HN z0 (.tup [])) (a:=pk) (o:= .lst [V.non, .int 7])
    have cP:=cN.same (Sz.trans Sk)
    have npk:pk≠a:=(cN.same Sz).4.ne hpk
    have mNP:Mono HN (upd (upd HN z0 (.tup [])) pk (.lst [V.non, .int 7])):= .of (Sz.trans Sk)
    generalize (upd (upd HN z0 (.tup [])) pk (.lst [V.non, .int 7]))=HP at *
    refine⟨a,_,cP.4,by omega, .inl ⟨pk,_,rfl,npk,SqL.of epk,by decide,by decide,λw2 HQ hw2 hHQ kQ=>?_⟩⟩
    have cQ:=cP.keep nla nha kQ hHQ
    have ezQ:=kQ _ _ (nea cP.4 _ _ ez) ez
    have mPQ:Mono HP HQ:= .keep kQ cP.4 hHQ
    obtain⟨t2,rw2,wt2,wp2⟩:∃t2,Rep HQ w2 t2/\zad t2=true/\zu O' t2=true:=by
     simp only[List.mem_cons,List.not_mem_nil,or_false] at hw2
     rcases hw2 with rfl|rfl
     ·exact ⟨.non, .non,rfl,rfl⟩
     ·exact ⟨.int 7, .int _,by decide,rfl⟩
    refine⟨few rfl,λa1 ha1=>⟨few rfl,λa2 ha2=>?_⟩⟩
    have Sa1:=Same.new (o:= .tup [V.ref z0,w2]) ha1
    have Sa2:=Same.new (o:= .tup [V.ref a1]) ha2
    have sQR:=Sa1.trans Sa2
    have cR:=cQ.same sQR
    have ea2:=zb (H:=upd HQ a1 (.tup [V.ref z0,w2])) (a:=a2) (o:= .tup [V.ref a1])
    have ra2:Rep (upd (upd HQ a1 (.tup [V.ref z0,w2])) a2 (.tup [V.ref a1])) (.ref a2) (.tup [.tup [.tup [],t2]]):= .mkL (vs:=[V.ref a1]) ea2 (Nat.le_of_ble_eq_true rfl) (.cons (.mkL (vs:=[V.ref z0,w2]) (Sa2 _ _ zb) (Nat.le_of_ble_eq_true rfl) (.cons (.mkL (vs:=[]) (sQR _ _ ezQ) (Nat.le_of_ble_eq_true rfl) .nil) (.cons (rw2.same sQR) .nil))) .nil)
    have mNR:Mono HN (upd (upd HQ a1 (.tup [V.ref z0,w2])) a2 (.tup [V.ref a1])):=(mNP.trans mPQ).trans (.of sQR)
    generalize (upd (upd HQ a1 (.tup [V.ref z0,w2])) a2 (.tup [V.ref a1]))=HR at *
    have hlen:(us1 ++ [V.ref pD]).length=i+1:=by rw[List.length_append,lu1];rfl
    have hix:ixN (us1 ++ [V.ref pD]).length (-1)=some i:=by
     rw[hlen]
     unfold ixN
     rw[if_neg (by decide),if_pos (by omega)]
     congr 1
     omega
    refine⟨_,rfl,1,rfl,ll,_,-1,i,rfl,rfl,cR.2,hix,?_⟩
    have eset:(us1 ++ [V.ref pD]).set i (.ref a2)=us1 ++ [V.ref a2]:=by
     rw[List.set_append_right _ _ (by omega),lu1,Nat.sub_self];rfl
    rw[eset]
    have mS:Mono HR (upd HR ll (.lst (us1 ++ [V.ref a2]))):= .lset cR.2
    exact⟨⟨_,_,_,_,_,rfl⟩,fin _ _ _ ⟨cR.1.trans mS,zb,by rw[ze nlh.symm];exact cR.3,(cR.4.updNe nla).mono (by omega),λe o h1 h2 h3 x=>by rw[ze h2];exact cR.5 e o h1 h2 h3 x⟩ (ra2.mono mS) (zjt eg wt2 wp2) ((repE'.mono mNR).mono mS)⟩
   ·exact ⟨⟨_,_,_,_,_,rfl⟩,fin HN _ _ ⟨cN.1,cN.2,cN.3,cN.4.mono (by omega),cN.5⟩ repD' hlk repE'⟩
  ·rintro σ' HZ ⟨⟨o5,o6,o7,o8,o9,rfl⟩,⟨us1,us2,L1,L2,e1,e2,r1,r2,n1,n2,g1,g2⟩,rnZ,hHZ,mZ,kZ⟩
   refine⟨_,rfl,_,rfl,?_⟩
   refine zbn (K:=K) (mZ.tup _ _ hp) λpA HA eA sA=>?_
   have ecut:zaY [V.str g,V.ref pr,V.ref pt,V.ref pl,V.ref pa] none (some 3)=[V.str g,V.ref pr,V.ref pt]:=za8 (n:=3)
   rw[ecut] at eA
   refine⟨_,rfl,ll,us1,rfl, .inl ⟨SqL.of (sA _ _ e1),λc1 hc1=>?_⟩⟩
   have Sc1:=Same.new (o:= .tup us1) hc1
   refine⟨_,rfl,lh,us2,rfl, .inl ⟨SqL.of (Sc1 _ _ (sA _ _ e2)),λc2 hc2=>⟨few rfl,λc3 hc3=>?_⟩⟩⟩
   have Sc2:=Same.new (o:= .tup us2) hc2
   have Sc3:=Same.new (o:= .tup [V.ref c1, .ref c2]) hc3
   have ec1:=Sc3 _ _ (Sc2 _ _ (zb (H:=HA) (a:=c1) (o:= .tup us1)))
   have ec2:=Sc3 _ _ (zb (H:=upd HA c1 (.tup us1)) (a:=c2) (o:= .tup us2))
   have ec3:=zb (H:=upd (upd HA c1 (.tup us1)) c2 (.tup us2)) (a:=c3) (o:= .tup [V.ref c1, .ref c2])
   have sZ3:=sA.trans ((Sc1.trans Sc2).trans Sc3)
   have eA3:=((Sc1.trans Sc2).trans Sc3) _ _ eA
   generalize (upd (upd (upd HA c1 (.tup us1)) c2 (.tup us2)) c3 (.tup [V.ref c1, .ref c2]))=HB at *
   refine zbV (K:=K) eA3 ec3 (by show 3+2<=1000;omega) λpZ HW eW sW=>?_
   have sZW:=sZ3.trans sW
   have mHW:Mono H HW:=mZ.trans (.of sZW)
   have lL1:L1.length<=1000:=by omega
   have lL2:L2.length<=1000:=by omega
   have rep:Rep HW (.ref pZ) (zaB g hs ps L1 L2):=Rep.mkL (vs:=[V.str g, .ref pr, .ref pt, .ref c1, .ref c2]) eW (Nat.le_of_ble_eq_true rfl) (.cons (.str _ (zC (T.names _ T.goal))) (.cons (.mkL (mHW.tup _ _ hpr) (by rw[List.length_map];omega) (zbZ λy hy=>zC (T.names y hy))) (.cons (.mkL (mHW.tup _ _ hpt) (by rw[←rt.1];have:=znL hv;rw[rt.1,List.length_map];exact this) (rt.mono mHW)) (.cons (.mkL (sW _ _ ec1) lL1 (r1.mono (.of sZW))) (.cons (.mkL (sW _ _ ec2) lL2 (r2.mono (.of sZW))) .nil)))))
   have at1':∀(j:Nat) (x:Str),hs[j]?=some x->∃d d',lks[j]?=some d/\L1[j]?=some d'/\HLk g O' x d d':=λj x hj=>by
    have hlt:=(List.getElem?_eq_some_iff.mp hj).1
    have h1:j<lks.length:=by rw[T.ll];exact hlt
    have h2:j<L1.length:=by rw[n1];exact hlt
    exact⟨_,_,List.getElem?_eq_getElem h1,List.getElem?_eq_getElem h2,g1 j x _ _ hj (List.getElem?_eq_getElem h1) (List.getElem?_eq_getElem h2)⟩
   have at2':∀(j:Nat),j<hs.length->∃d d',hds[j]?=some d/\L2[j]?=some d'/\HHd O' d d':=λj hlt=>by
    have h1:j<hds.length:=by rw[T.lh];exact hlt
    have h2:j<L2.length:=by rw[n2];exact hlt
    exact⟨_,_,List.getElem?_eq_getElem h1,List.getElem?_eq_getElem h2,g2 j _ _ (List.getElem?_eq_getElem h1) (List.getElem?_eq_getElem h2)⟩
   have all1:∀d'∈L1,za0 d'=true/\zaq O' d'=true:=λd' hd'=>by
    obtain⟨j,hj⟩:=List.getElem?_of_mem hd'
    have hlt:j<hs.length:=by rw[←n1];exact(List.getElem?_eq_some_iff.mp hj).1
    obtain⟨d,d2,_,e,h⟩:=at1' j hs[j] (List.getElem?_eq_getElem hlt)
    rw[hj] at e
    cases e
    exact⟨h.1,h.2.1⟩
   have all2:∀d'∈L2,zbq d'=true/\zaq O' d'=true:=λd' hd'=>by
    obtain⟨j,hj⟩:=List.getElem?_of_mem hd'
    have hlt:j<hs.length:=by rw[←n2];exact(List.getElem?_eq_some_iff.mp hj).1
    obtain⟨d,d2,_,e,h⟩:=at2' j hlt
    rw[hj] at e
    cases e
    exact⟨h.1,h.2.1⟩
   refine q _ L1 L2 O' HW rep {T with ll:=n1,lh:=n2,likes:=λd hd=>(all1 d hd).1,hands:=λd hd=>(all2 d hd).1} ⟨O14,On,λx hx=>OO x (PO.hs x hx),λd hd=>(all1 d hd).2,λd hd=>(all2 d hd).2⟩ ⟨by rw[n1,T.ll],by rw[n2,T.lh],λj x hj hg=>?_,λj x hj=>?_⟩ ((hHZ.same sZW).mono (by omega)) (kZ.trans (Keep.of sZW))
   ·obtain ⟨d,d',ed,ed',h⟩:=at1' j x hj
    obtain⟨s1,s2,r,rfl,rfl,nv⟩:=h.2.2 hg
    exact⟨s1,s2,r,ed,ed',nv⟩
   ·obtain ⟨d,d',ed,ed',h⟩:=at2' j (List.getElem?_eq_some_iff.mp hj).1
    obtain⟨s1,s2,r,rfl,rfl,nv⟩:=h.2.2
    exact⟨s1,s2,r,ed,ed',nv⟩
end
section
variable{P:Program}{w:World}{K:PySem.W.Frag}{mg:Str->Option Value}{base:Heap}
theorem zeI{K:PySem.W.Frag}{J:It}{us:List V}{ok:Hp->Prop}{te:TE}{src:List (Option Nat)}{σ:L2.St}{H1:Hp}{σr:L2.St}{Q:VK}(wk:Wk J us.length (λi x=>us[i]?=some x) ok)(hok:∀H',Same H1 H'->ok H')(h9:us.length<=900)(e:zdk src σ=none::σr)
 (hte:∀(i:Nat) (v:V) (H':Hp) (R:VK),us[i]?=some v->Same H1 H'->(∀H'',Same H' H''->R (.bl true) H'')->te (some v::σr) H' R)
 (hQ:∀l2 H',H' l2=some (.lst ((List.replicate us.length true).map V.bl))->Same H1 H'->Q (.ref l2) H'):zcu (zbi 0) zjO te src σ Q J H1:=by
 refine zba wk (λl2 i ys σ' H'=>(∃o,σ'=o::σr)/\ys=(List.replicate i true).map V.bl/\Same H1 H') ?_ (λl2 i ys σ' H' hl z=>hok _ z.2.2) ?_ ?_
 ·exact λl2 hl=>⟨⟨none,e⟩,rfl,Same.new hl⟩
 ·rintro l2 i v0 ys σ' H2 hl' hi hv0 ⟨⟨o,rfl⟩,rfl,s2⟩ hl2
  refine hte i v0 H2 _ hv0 s2 λH3 s3=>?_
  refine⟨s3 _ _ hl2,zn (by rw[List.length_map,List.length_replicate];omega),⟨_,rfl⟩,by rw[List.replicate_succ',List.map_append];rfl,λb o e=>by rw[ze (zi e hl')];exact s3 _ _ (s2 b o e)⟩
 ·rintro l2 ys σ' H2 hl' ⟨_,rfl,s2⟩ hl2
  exact hQ l2 H2 hl2 s2
theorem zfm{n:Nat}:(List.replicate n true).all id=true:=by rw[List.all_eq_true];intro b hb;exact List.eq_of_mem_replicate hb
theorem Kn.keep{H0 H H':Hp}{kd a:Addr}{n:Int}{g:Str}{hs:List Str}{ps:List (Str×Str)}{lks hds:List D}{ls:List Addr}{W:Str->List (List Str)}(k:Kn H0 H kd g hs ps lks hds ls W)(hH:Hand H a n)(kp:Keep a H H'):Kn H0 H' kd g hs ps lks hds ls W:=
 ⟨kp _ _ (λz=>by obtain⟨x,m,t,h,_⟩:=hH;have:=k.d;rw[z,h] at this;cases this) k.d,k.gl.keep hH kp,k.due⟩
def ziA(K:PySem.W.Frag):Sp:=λvs H Q _=>∃(a:Addr) (ns:List Int),vs=[.ref a]/\SqL K H a (ns.map V.int)/\ns.length<=63/\∀H',Q (.bl true) H'
theorem zjH(Y:Ev K mg){fl:Addr}{fdl:FuncData}(FL:Fun K "law" "law" zb3 fl fdl):FnOk P w K mg base CX0 10 fl fdl ziF (ziA K):=by
 have G__law_hand:FnOk P w K mg base CX0 1 Y.a__law_hand Y.d__law_hand zbz (zlp K):=zmp Y
 have G__law_town:FnOk P w K mg base CX0 6 Y.a__law_town Y.d__law_town zbE zkr:=zmo Y
 have G_lets:FnOk P w K mg base CX0 8 Y.a_lets Y.d_lets zdT zil:=zix Y
 have G__law_pieced:FnOk P w K mg base CX0 8 Y.a__law_pieced Y.d__law_pieced zaS zg6:=zjK Y
 have G__law_falls:FnOk P w K mg base CX0 8 Y.a__law_falls Y.d__law_falls za7 zi6:=zkN Y
 have G__law_untied:FnOk P w K mg base CX0 9 Y.a__law_untied Y.d__law_untied zaR zgT:=zjq Y
 have G__law_idle:FnOk P w K mg base CX0 3 Y.a__law_idle Y.d__law_idle zbI zk1:=zm0 Y
 have G_marks_of:FnOk P w K mg base CX0 7 Y.a_marks_of Y.d_marks_of zay zcd:=zb7 Y
 refine FL.okQ c_law (λvs H Q E h=>?_) (λcdv A outer s H vs Q E hr h=>?_)
 ·obtain ⟨a,ns,rfl,_⟩:=h;rfl
 ·obtain ⟨b,ns,rfl,hS,hns,q⟩:=h
  refine⟨_,(zg (zbx PassesOwn.never rfl (zdi Y.range (za (zz (zjJ rfl) Y.max ziq (za zf (za (zz (zfC rfl) Y.min zf6 (za zf (za (zz z8 Y.len zbs (za (qv 0) zc)) zc))) zc))) zc)) (zt 1 c_law.nd) (zg (zB 2 c_law.nd (zj G__law_hand (hr.mono (by decide)) Y._law_hand.mg Y._law_hand.kp Y._law_hand.b .nil zo (za (qv 0) (za (qv 1) zc))))
   (zg (zcm 3 c_law.nd (zj G__law_town (hr.mono (by decide)) Y._law_town.mg Y._law_town.kp Y._law_town.b .nil zo (za (qv 2) zc)))
   (zg (zcm 4 c_law.nd (zj G_lets (hr.mono (by decide)) Y.lets.mg Y.lets.kp Y.lets.b .nil zo (za (qc 3) zc)))
   (zg (zbx PassesOwn.never rfl (zbY (zT ix_tup (qc 3) zf)) (zt 5 c_law.nd) (zg (zas (zfq (zeW (zz (zfo rfl) Y.all zk3 (za (zaT (src:=[none,some 4,some 3]) o_law_1 rfl rfl (zcn (zca (hu1 hr) (qc 4) (qv 5))) (λ_ _ _ _ _=>(zt 0 o_law_1.nd)) (λ_ _ _ _ _=>zbW) (λ_ _ _ _ _=>(zj G__law_pieced (hr.mono (by decide)) Y._law_pieced.mg Y._law_pieced.kp Y._law_pieced.b .nil zo (za (qc 2) (za (qc 1) (za (qv 0) zc)))))) zc)))) (zm (zx zcb)) zS)
   (zm (zas (zfq (zeW (zj G__law_falls (hr.mono (by decide)) Y._law_falls.mg Y._law_falls.kp Y._law_falls.b .nil zo (za (qc 3) (za (zca (hu1 hr) (qc 4) (qv 5)) zc))))) (zm (zx zcb)) zS))))
   (zg (zas (zfq (zeW (zz (zfo rfl) Y.all zk3 (za (zaT (src:=[none,some 4,some 3]) o_law_2 rfl rfl (zbY (zc3 zaH (zT ix_tup (qc 3) zf) zaQ (zaO zf))) (λ_ _ _ _ _=>(zt 0 o_law_2.nd)) (λ_ _ _ _ _=>zbW) (λ_ _ _ _ _=>(zj G__law_untied (hr.mono (by decide)) Y._law_untied.mg Y._law_untied.kp Y._law_untied.b .nil zo (za (qc 2) (za (qc 1) (za (qv 0) zc)))))) zc)))) (zm (zx zcb)) zS)
   (zg (zcm 6 c_law.nd (zj G__law_idle (hr.mono (by decide)) Y._law_idle.mg Y._law_idle.kp Y._law_idle.b .nil zo (za (qv 2) (za (qc 3) zc))))
   (zg (zas (zI (zmL (zei hr)) (zj G_lets (hr.mono (by decide)) Y.lets.mg Y.lets.kp Y.lets.b .nil zo (za (qc 6) zc)) (qc 4)) (zm (zx zcb)) zS)
   (zm (zbx PassesOwn.never rfl (zbY (zT ix_tup (qc 3) zf)) (zt 5 c_law.nd) (zm (zas (zI (ze3 (zei hr)) (zaT (src:=[none,some 6]) o_law_3 rfl rfl (zcn (zca (hu1 hr) (qc 4) (qv 5))) (λ_ _ _ _ _=>(zt 0 o_law_3.nd)) (λ_ _ _ _ _=>zbW) (λ_ _ _ _ _=>(zj G_marks_of (hr.mono (by decide)) Y.marks_of.mg Y.marks_of.kp Y.marks_of.b .nil zo (za (qc 1) (za (qv 0) zc))))) (zaT (src:=[none,some 3]) o_law_4 rfl rfl (zcn (zca (hu1 hr) (qc 4) (qv 5))) (λ_ _ _ _ _=>(zt 0 o_law_4.nd)) (λ_ _ _ _ _=>zbW) (λ_ _ _ _ _=>(zj G_marks_of (hr.mono (by decide)) Y.marks_of.mg Y.marks_of.kp Y.marks_of.b .nil zo (za (qc 1) (za (qv 0) zc)))))) (zm (zx zcb)) zS))))))))))))
   (zm (zx zcb))),?_⟩
  refine⟨_,rfl, .inl ⟨b,_,rfl, .inl hS,_,_,rfl,_,_,rfl,_,rfl,?_,?_,?_⟩⟩
  ·split<;>(try split)<;>omega
  ·rw[List.length_map]
   split<;>(try split)<;>omega
  refine za9 zcA (λi σ' H'=>(∃o1 o2 o3 o4 o5 o6,σ'=[some (.ref b),o1,o2,o3,o4,o5,o6])/\Same H H') ⟨⟨_,_,_,_,_,_,rfl⟩,Same.refl H⟩ (λ_ _ _ _=>trivial) ?_ ?_
  ·rintro i y σ' H0 hi rfl ⟨⟨o1,o2,o3,o4,o5,o6,rfl⟩,s0⟩
   have hi':i<1000:=by
    refine Nat.lt_of_lt_of_le hi ?_
    rw[List.length_map]
    split<;>(try split)<;>omega
   refine⟨_,rfl,_,rfl,b,ns,_,rfl,s0.seq hS,by omega,by omega,λa H1 ha hH1 s1=>?_⟩
   dsimp only[zbi]
   refine⟨_,rfl,a,0,rfl,hH1,by decide,λv g hs ps lks hds H2 hv T hw hP l12 h12 sp hH2 k2=>?_⟩
   obtain⟨O,O13,PO⟩:=hP
   have sa2:Same H0 H2:=λc o e=>k2 c o (zi e ha) (s1 c o e)
   have hv':=hv
   obtain⟨p,pr,pt,pl,pa,vt,vl,va,rfl,hp,hpr,hpt,rt,_⟩:=zbv hv'
   have T10:=T.ten
   have tin:∀p∈ps,p.1∈hs/\p.2∈hs:=λp hp=>⟨(T.ties p hp).1,(T.ties p hp).2.1⟩
   have ple:=znL hv
   refine⟨_,rfl, .ref p,g,hs,ps,lks,hds,O,rfl,hv,T,PO,sp,λkd ls W H3 hkd gl du kN s3=>?_⟩
   have kn:Kn H2 H3 kd g hs ps lks hds ls W:=⟨hkd,gl,du⟩
   have hp3:=s3 _ _ hp
   have hpr3:=s3 _ _ hpr
   have hpt3:=s3 _ _ hpt
   have hv3:=hv.same s3
   have hH3:=hH2.same s3
   refine⟨_,rfl,p,_,1,_,rfl,rfl, .inl (.inl hp3),at1,pr,rfl,⟨_, .inl (.inl hpr3)⟩,?_⟩
   refine za9 (zaU (K:=K) (xs:=hs.map V.str)) (λj σ' H'=>(∃o1 o5 o6,σ'=[some (.ref b),o1,some (.ref a),some (.ref p),some (.ref kd),o5,o6])/\Same H3 H') ⟨⟨_,_,_,rfl⟩,Same.refl _⟩ (λj σ' H' z=> .inl (.inl (z.2 _ _ hpr3))) ?_ ?_
   ·rintro j x0 σ' H4 hj hx0 ⟨⟨o1,o5,o6,rfl⟩,s4⟩
    rw[List.getElem?_map] at hx0
    obtain⟨x,ex,rfl⟩:∃x,hs[j]?=some x/\x0= .str x:=by
     cases e:hs[j]? with
     |none=>rw[e] at hx0;cases hx0
     |some y=>rw[e] at hx0;cases hx0;exact⟨y,rfl,rfl⟩
    have hx:=List.mem_of_getElem? ex
    obtain⟨l,us,dg,eu,au,wk,_⟩:=(kn.same s4).get T sp hx
    dsimp only[zbi]
    refine⟨_,rfl,_,rfl,kd,_,rfl,dg,l,rfl,⟨_,SqL.of eu⟩,?_⟩
    refine zeI (K:=K) (zcT (K:=K) (xs:=us)) (λH' s=>SqL.of (s _ _ eu)) (by rw[au.1];have:=wk.few;omega) rfl (λk v0 H5 R hv0 s5 hR=>?_) (λl2 H5 el2 s5=>?_)
    ·have hk':k<(W x).length:=by rw[←au.1];exact(List.getElem?_eq_some_iff.mp hv0).1
     obtain⟨bb,rfl,ob⟩:=au.2 k v0 (W x)[k] hv0 (List.getElem?_eq_getElem hk')
     obtain⟨r,m,er,sw,em⟩:=zcG (du x hx) _ (List.getElem_mem hk')
     rw[er] at ob
     have ob:H4 bb=some (.tup ((x::r).map V.str)):=ob
     exact⟨_,rfl,_,rfl,_,rfl, .ref p,kd,bb,x,r,m,ls,W,H2,g,hs,ps,lks,hds,O,rfl,hv3.same (s4.trans s5),T,PO,sp,kn.same (s4.trans s5),s5 _ _ ob,sw,em,hR⟩
    refine⟨l2,_,rfl,SqL.of el2,_,rfl,?_⟩
    rw[zfm]
    refine zbC rfl ?_
    have s45:=s4.trans s5
    obtain⟨l3,us3,dg3,eu3,au3,_,_⟩:=(kn.same s45).get T sp hx
    refine⟨_,rfl,_,rfl,_,rfl,kd,_,rfl,dg3, .ref p,l3,us3,W x,x,g,hs,ps,lks,hds,O,rfl,hv3.same s45,T,PO,sp,eu3,au3,du x hx,hx,λH6 s6=>?_⟩
    exact⟨_,rfl,zbC rfl ⟨⟨_,_,_,rfl⟩,s45.trans s6⟩⟩
   rintro σ' H4 ⟨⟨o1,o5,o6,rfl⟩,s4⟩
   refine⟨_,rfl,p,_,2,_,rfl,rfl, .inl (.inl (s4 _ _ hp3)),zU (j:=2) rfl,_,rfl,?_⟩
   refine zbn (K:=K) (s4 _ _ hpt3) λp8 H5 e8 s5=>?_
   have ecut:zaY vt none (some 8)=vt.take 8:=za8 (n:=8)
   rw[ecut] at e8
   have s35:=s4.trans s5
   refine⟨p8,rfl,⟨_, .inl (.inl e8)⟩,?_⟩
   refine zeI (K:=K) (zaU (K:=K) (xs:=vt.take 8)) (λH' s=> .inl (.inl (s _ _ e8))) (by rw[List.length_take];omega) rfl (λk v0 H6 R hv0 s6 hR=>?_) (λl2 H6 el2 s6=>?_)
   ·have hv1:vt[k]?=some v0:=by
     have hk:=(List.getElem?_eq_some_iff.mp hv0).1
     rw[List.length_take] at hk
     rw[List.getElem?_take_of_lt (by omega)] at hv0;exact hv0
    obtain⟨d,ed,rd⟩:=rt.get hv1
    rw[List.getElem?_map] at ed
    obtain⟨t,et,rfl⟩:=Option.map_eq_some_iff.mp ed
    have htp:=List.mem_of_getElem? et
    obtain⟨tp,rfl,htp2⟩:=zcN (xs:=[t.1,t.2]) rd
    exact⟨_,rfl,_,rfl,_,rfl, .ref p,kd,tp,t,ls,W,H2,g,hs,ps,lks,hds,O,rfl,hv3.same (s35.trans s6),T,PO,sp,ple,kn.same (s35.trans s6),htp,s6 _ _ (s35 _ _ (s3 _ _ htp2)),hR⟩
   refine⟨l2,_,rfl,SqL.of el2,_,rfl,?_⟩
   rw[zfm]
   refine zbC rfl ?_
   have s36:=s35.trans s6
   have hH6:=hH3.same s36
   refine⟨_,rfl,_,rfl,a,_, .ref p,g,hs,ps,lks,hds,O,rfl,hH6,by omega,hv3.same s36,T,PO,O13,l12,h12,λu lks' hds' O' H7 ru T' PO' idle hH7 k7=>?_⟩
   have kn7:=(kn.same s36).keep hH6 k7
   have hv7:=(hv3.same s36).mono (.keep k7 hH6 hH7)
   refine⟨_,rfl,u,g,hs,ps,lks',hds',O',rfl,ru,T',PO',sp,λfd ls2 W2 H8 hfd gl2 du2 fN s8=>?_⟩
   have kn8:=kn7.same s8
   have hsN:hs.Nodup:=T.hs_nd
   have eW:∀x∈hs,W2 x=W x:=λx hx=>Due.uniq (du2 x hx) (idle.due T hx (du x hx))
   have sd:zk7 H8 (zaP hs (ls2.map V.ref)) (zaP hs (ls.map V.ref)):=⟨by rw[zha (by rw[List.length_map,gl2.len]),zha (by rw[List.length_map,gl.len])],λkv hk=>by
    have hk':kv∈(hs.zip (ls2.map V.ref)).map λp=>((Sum.inr p.1:Key),p.2):=hk
    obtain⟨pv,hpv,rfl⟩:=List.mem_map.mp hk'
    obtain⟨i,hi⟩:=List.getElem?_of_mem hpv
    rw[List.getElem?_zip_eq_some] at hi
    have hx:=List.mem_of_getElem? hi.1
    have okx:=zdU T sp (du _ hx)
    obtain⟨l',us',ev',eu',au',tr'⟩:=kn8.gl.tr hsN hx okx
    rw[←eW _ hx] at okx
    obtain⟨l,us,ev,eu,au,tr⟩:=gl2.tr hsN hx okx
    have e:=ziX hsN hi.1 hi.2
    rw[ev] at e
    refine⟨_,zbX (W pv.1),ev',?_,tr',(zdx (zdU T sp (du _ hx))).2.1⟩
    rw[←Option.some.inj e,←eW _ hx]
    exact tr⟩
   refine⟨_,rfl,fd,kd,_,_,rfl,rfl,hfd,kn8.d,sd,_,rfl,zbC rfl ?_⟩
   have nea:∀{H':Hp} {m:Int},Hand H' a m->∀c xs,H' c=some (.tup xs)->c≠a:=λh c xs e z=>by
    obtain⟨x,m,t,hH,_⟩:=h
    rw[z,hH] at e;cases e
   have hp8:=s8 _ _ (k7 _ _ (nea hH6 _ _ (s36 _ _ hp3)) (s36 _ _ hp3))
   have hpr8:=s8 _ _ (k7 _ _ (nea hH6 _ _ (s36 _ _ hpr3)) (s36 _ _ hpr3))
   have hv8:=hv7.same s8
   have ru8:=ru.same s8
   have s08:Same H0 H8:=λc o e=>s8 _ _ (k7 _ _ (zi e ha) (s36 _ _ (s3 _ _ (sa2 c o e))))
   refine⟨_,rfl,p,_,1,_,rfl,rfl, .inl (.inl hp8),at1,pr,rfl,⟨_, .inl (.inl hpr8)⟩,?_⟩
   refine za9 (zaU (K:=K) (xs:=hs.map V.str)) (λj σ' H'=>(∃o1 o2 o5,σ'=[some (.ref b),o1,o2,some (.ref p),some (.ref kd),o5,some u])/\Same H8 H') ⟨⟨_,_,_,rfl⟩,Same.refl _⟩ (λj σ' H' z=> .inl (.inl (z.2 _ _ hpr8))) ?_ ?_
   ·rintro j x0 σ' H9 hj hx0 ⟨⟨o1,o2,o5,rfl⟩,s9⟩
    rw[List.getElem?_map] at hx0
    obtain⟨x,ex,rfl⟩:∃x,hs[j]?=some x/\x0= .str x:=by
     cases e:hs[j]? with
     |none=>rw[e] at hx0;cases hx0
     |some y=>rw[e] at hx0;cases hx0;exact⟨y,rfl,rfl⟩
    have hx:=List.mem_of_getElem? ex
    obtain⟨l,us,dg,eu,au,wk,_⟩:=(kn8.same s9).get T sp hx
    have l16:(W x).length<=100:=Nat.le_trans wk.few (by decide)
    have mem:∀w∈W x,SW g ps w/\(∀z∈w,z∈hs)/\1<=w.length/\w.length<=80:=λw hw=>by
     obtain⟨r,m,er,sw,em⟩:=zcG (du x hx) w hw
     have:=wk.len w hw
     rw[er] at this⊢
     exact⟨sw,SW.mem T.goal tin sw,Nat.le_add_left 1 _,by omega⟩
    have nmM:∀o∈(W x).map (zk hs lks hds),∀w,o=some w->∀y∈w,zh y=true:=λo ho w e y hy=>by
     obtain⟨w',hw',rfl⟩:=List.mem_map.mp ho
     have MR:=zbA T PO (mem w' hw').2.1 e
     exact PO.nm y (MR.mem y hy)
    have eM:(W x).map (zk hs lks' hds')=(W x).map (zk hs lks hds):=List.map_congr_left λw hw=>idle.marks T (mem w hw).1
    dsimp only[zbi]
    refine⟨_,rfl,_,rfl,kd,_,rfl,dg,l,rfl,⟨_,SqL.of eu⟩,?_⟩
    refine zcY (K:=K) (M:=zk hs lks' hds') eu au l16 rfl (λbb w HA R hw hb sA hR=>?_) (λlA ysA HA lAN elA atA sA=>?_)
    ·exact ⟨_,rfl,_,rfl,u,bb,w,g,hs,ps,lks',hds',O',rfl,ru8.same (s9.trans sA),T',PO',(mem w hw).2.1,hb,(mem w hw).2.2.1,(mem w hw).2.2.2,λu6 H6 t6 s6=>hR u6 H6 t6 s6⟩
    rw[eM] at atA
    obtain⟨l3,us3,dg3,eu3,au3,_,_⟩:=(kn8.same (s9.trans sA)).get T sp hx
    refine⟨_,rfl,_,rfl,kd,_,rfl,dg3,l3,rfl,⟨_,SqL.of eu3⟩,?_⟩
    refine zcY (K:=K) (M:=zk hs lks hds) eu3 au3 l16 rfl (λbb w HB R hw hb sB hR=>?_) (λlB ysB HB lBN elB atB sB=>?_)
    ·exact ⟨_,rfl,_,rfl, .ref p,bb,w,g,hs,ps,lks,hds,O,rfl,hv8.same ((s9.trans sA).trans sB),T,PO,(mem w hw).2.1,hb,(mem w hw).2.2.1,(mem w hw).2.2.2,λu7 H7 t7 s7=>hR u7 H7 t7 s7⟩
    have trA:Tr HB (.ref lA) (zeX ((W x).map (zk hs lks hds))):=AtT.tr (sB _ _ elA) (atA.tups λc xs e=>sB _ _ e) nmM
    have trB:Tr HB (.ref lB) (zeX ((W x).map (zk hs lks hds))):=AtT.tr elB atB nmM
    refine⟨_,_,trA,trB,Nat.le_trans (Nat.min_le_left _ _) zd8,?_⟩
    rw[SeqAt.eqv_refl _ trA.can]
    exact⟨_,rfl,zbC rfl ⟨⟨_,_,_,rfl⟩,(s9.trans sA).trans sB⟩⟩
   ·rintro σ' H9 ⟨⟨o1,o2,o5,rfl⟩,s9⟩
    exact⟨⟨_,_,_,_,_,_,rfl⟩,s0.trans (s08.trans s9)⟩
  ·rintro σ' H' ⟨⟨o1,o2,o3,o4,o5,o6,rfl⟩,s0⟩
   exact q _
end
theorem walk{l:PySem.W.OpenLaw}{q:Program}{loose:List Str}{XP:(Str->Option Value)->Heap->Prop}{YP:World->Heap->Prop}{d:DefRec}{K:Params->PySem.W.Frag}(hn:l.most=some 63)(hdf:d.params.defaults=[])
 (hY:∀(w:World) (h:Heap),YP w h->(K w.params).In h)
 (F:∀(w:World) (mg:Str->Option Value) (fa:Addr) (h:Heap),(K w.params).In h->h.Ns mainGlobals mg->mg d.name=some (.ref fa)->
   ∃fd:FuncData,(∀(s:Shared) (u:Value),BindsTo s fd ⟨[u],[]⟩ [("_law_script",u)])/\∀base:Heap,(K w.params).In base->base.Ns mainGlobals mg->FnOk l.prog w (K w.params) mg base CX0 10 fa fd ["_law_script"] (ziA (K w.params))):
 PySem.W.WalkO q loose XP YP l.row.toRowW d [] (λf vs=>PySem.call f vs):=
 L2.walk_of (n:=63) (k:=10) (x:="_law_script") (CX:=λ_=>CX0) (sp:=λw=>ziA (K w.params)) hn (by decide) hdf ⟨rfl,by decide,by decide,rfl⟩ hY F (λ_ _ a ns hl _ hS=>⟨a,ns,rfl,hS,hl,λ_=>rfl⟩) λ_ _ _ _ _ z=>z
theorem all_mk{l:PySem.W.OpenLaw}{w:World}{K:PySem.W.Frag}{h:Heap}{mg:Str->Option Value}{fa:Addr}(X:K.In h)(G:h.Ns mainGlobals mg)(hfa:mg "law"=some (.ref fa))
 {f1:Addr} {od1 an1:Option Addr} {sl1:Array (Option Value)} {oc1 kV1 dc1 pm1 cd1 ct1:Value}
 {dt1:Addr} {odd1:Option Addr} {nd1:Nat} {sld1:Array (Option Value)}
 (a1:PySem.W.nsIn K mainGlobals "holds"=some (some (.ref f1))) (l1:K.lookup f1=some ⟨oc1,od1, .func (PySem.W.fnOf "holds" "holds" (zr zc2) (zp zc2) (zd zc2) (.ref dt1) kV1 dc1 pm1 an1 cd1 ct1),sl1⟩) (c1:PySem.W.codeIn K cd1 "holds"=true) (k1:PySem.W.keepIn K (.ref f1)=true)
 (ld1:K.lookup dt1=some ⟨.type "tuple",odd1, .seq #[.none] nd1,sld1⟩)
 {f2:Addr} {od2 an2:Option Addr} {sl2:Array (Option Value)} {oc2 kV2 dc2 pm2 cd2 ct2:Value}
 {dt2:Addr} {odd2:Option Addr} {nd2:Nat} {sld2:Array (Option Value)}
 (a2:PySem.W.nsIn K mainGlobals "all_hold"=some (some (.ref f2))) (l2:K.lookup f2=some ⟨oc2,od2, .func (PySem.W.fnOf "all_hold" "all_hold" (zr zbr) (zp zbr) (zd zbr) (.ref dt2) kV2 dc2 pm2 an2 cd2 ct2),sl2⟩) (c2:PySem.W.codeIn K cd2 "all_hold"=true) (k2:PySem.W.keepIn K (.ref f2)=true)
 (ld2:K.lookup dt2=some ⟨.type "tuple",odd2, .seq #[.none] nd2,sld2⟩)
 {f3:Addr} {od3 an3:Option Addr} {sl3:Array (Option Value)} {oc3 kV3 dc3 pm3 cd3 ct3:Value}
 (a3:PySem.W.nsIn K mainGlobals "likings_of"=some (some (.ref f3))) (l3:K.lookup f3=some ⟨oc3,od3, .func (PySem.W.fnOf "likings_of" "likings_of" (zr zaL) (zp zaL) (zd zaL) .none kV3 dc3 pm3 an3 cd3 ct3),sl3⟩) (c3:PySem.W.codeIn K cd3 "likings_of"=true) (k3:PySem.W.keepIn K (.ref f3)=true)
 {f4:Addr} {od4 an4:Option Addr} {sl4:Array (Option Value)} {oc4 kV4 dc4 pm4 cd4 ct4:Value}
 (a4:PySem.W.nsIn K mainGlobals "hands_of"=some (some (.ref f4))) (l4:K.lookup f4=some ⟨oc4,od4, .func (PySem.W.fnOf "hands_of" "hands_of" (zr zbl) (zp zbl) (zd zbl) .none kV4 dc4 pm4 an4 cd4 ct4),sl4⟩) (c4:PySem.W.codeIn K cd4 "hands_of"=true) (k4:PySem.W.keepIn K (.ref f4)=true)
 {f5:Addr} {od5 an5:Option Addr} {sl5:Array (Option Value)} {oc5 kV5 dc5 pm5 cd5 ct5:Value}
 (a5:PySem.W.nsIn K mainGlobals "tied"=some (some (.ref f5))) (l5:K.lookup f5=some ⟨oc5,od5, .func (PySem.W.fnOf "tied" "tied" (zr zcJ) (zp zcJ) (zd zcJ) .none kV5 dc5 pm5 an5 cd5 ct5),sl5⟩) (c5:PySem.W.codeIn K cd5 "tied"=true) (k5:PySem.W.keepIn K (.ref f5)=true)
 {f6:Addr} {od6 an6:Option Addr} {sl6:Array (Option Value)} {oc6 kV6 dc6 pm6 cd6 ct6:Value}
 (a6:PySem.W.nsIn K mainGlobals "marks_behind"=some (some (.ref f6))) (l6:K.lookup f6=some ⟨oc6,od6, .func (PySem.W.fnOf "marks_behind" "marks_behind" (zr zZ) (zp zZ) (zd zZ) .none kV6 dc6 pm6 an6 cd6 ct6),sl6⟩) (c6:PySem.W.codeIn K cd6 "marks_behind"=true) (k6:PySem.W.keepIn K (.ref f6)=true)
 {f7:Addr} {od7 an7:Option Addr} {sl7:Array (Option Value)} {oc7 kV7 dc7 pm7 cd7 ct7:Value}
 (a7:PySem.W.nsIn K mainGlobals "handed"=some (some (.ref f7))) (l7:K.lookup f7=some ⟨oc7,od7, .func (PySem.W.fnOf "handed" "handed" (zr zci) (zp zci) (zd zci) .none kV7 dc7 pm7 an7 cd7 ct7),sl7⟩) (c7:PySem.W.codeIn K cd7 "handed"=true) (k7:PySem.W.keepIn K (.ref f7)=true)
 {f8:Addr} {od8 an8:Option Addr} {sl8:Array (Option Value)} {oc8 kV8 dc8 pm8 cd8 ct8:Value}
 (a8:PySem.W.nsIn K mainGlobals "worth"=some (some (.ref f8))) (l8:K.lookup f8=some ⟨oc8,od8, .func (PySem.W.fnOf "worth" "worth" (zr zcV) (zp zcV) (zd zcV) .none kV8 dc8 pm8 an8 cd8 ct8),sl8⟩) (c8:PySem.W.codeIn K cd8 "worth"=true) (k8:PySem.W.keepIn K (.ref f8)=true)
 {f9:Addr} {od9 an9:Option Addr} {sl9:Array (Option Value)} {oc9 kV9 dc9 pm9 cd9 ct9:Value}
 (a9:PySem.W.nsIn K mainGlobals "liking_key"=some (some (.ref f9))) (l9:K.lookup f9=some ⟨oc9,od9, .func (PySem.W.fnOf "liking_key" "liking_key" (zr zaE) (zp zaE) (zd zaE) .none kV9 dc9 pm9 an9 cd9 ct9),sl9⟩) (c9:PySem.W.codeIn K cd9 "liking_key"=true) (k9:PySem.W.keepIn K (.ref f9)=true)
 {f10:Addr} {od10 an10:Option Addr} {sl10:Array (Option Value)} {oc10 kV10 dc10 pm10 cd10 ct10:Value}
 (a10:PySem.W.nsIn K mainGlobals "likes_more"=some (some (.ref f10))) (l10:K.lookup f10=some ⟨oc10,od10, .func (PySem.W.fnOf "likes_more" "likes_more" (zr zaJ) (zp zaJ) (zd zaJ) .none kV10 dc10 pm10 an10 cd10 ct10),sl10⟩) (c10:PySem.W.codeIn K cd10 "likes_more"=true) (k10:PySem.W.keepIn K (.ref f10)=true)
 {f11:Addr} {od11 an11:Option Addr} {sl11:Array (Option Value)} {oc11 kV11 dc11 pm11 cd11 ct11:Value}
 (a11:PySem.W.nsIn K mainGlobals "most_liked_first"=some (some (.ref f11))) (l11:K.lookup f11=some ⟨oc11,od11, .func (PySem.W.fnOf "most_liked_first" "most_liked_first" (zr zA) (zp zA) (zd zA) .none kV11 dc11 pm11 an11 cd11 ct11),sl11⟩) (c11:PySem.W.codeIn K cd11 "most_liked_first"=true) (k11:PySem.W.keepIn K (.ref f11)=true)
 {f12:Addr} {od12 an12:Option Addr} {sl12:Array (Option Value)} {oc12 kV12 dc12 pm12 cd12 ct12:Value}
 (a12:PySem.W.nsIn K mainGlobals "marks_ahead"=some (some (.ref f12))) (l12:K.lookup f12=some ⟨oc12,od12, .func (PySem.W.fnOf "marks_ahead" "marks_ahead" (zr zal) (zp zal) (zd zal) .none kV12 dc12 pm12 an12 cd12 ct12),sl12⟩) (c12:PySem.W.codeIn K cd12 "marks_ahead"=true) (k12:PySem.W.keepIn K (.ref f12)=true)
 {f13:Addr} {od13 an13:Option Addr} {sl13:Array (Option Value)} {oc13 kV13 dc13 pm13 cd13 ct13:Value}
 (a13:PySem.W.nsIn K mainGlobals "marks_of"=some (some (.ref f13))) (l13:K.lookup f13=some ⟨oc13,od13, .func (PySem.W.fnOf "marks_of" "marks_of" (zr zbm) (zp zbm) (zd zbm) .none kV13 dc13 pm13 an13 cd13 ct13),sl13⟩) (c13:PySem.W.codeIn K cd13 "marks_of"=true) (k13:PySem.W.keepIn K (.ref f13)=true)
 {f14:Addr} {od14 an14:Option Addr} {sl14:Array (Option Value)} {oc14 kV14 dc14 pm14 cd14 ct14:Value}
 (a14:PySem.W.nsIn K mainGlobals "let_marks"=some (some (.ref f14))) (l14:K.lookup f14=some ⟨oc14,od14, .func (PySem.W.fnOf "let_marks" "let_marks" (zr za4) (zp za4) (zd za4) .none kV14 dc14 pm14 an14 cd14 ct14),sl14⟩) (c14:PySem.W.codeIn K cd14 "let_marks"=true) (k14:PySem.W.keepIn K (.ref f14)=true)
 {f15:Addr} {od15 an15:Option Addr} {sl15:Array (Option Value)} {oc15 kV15 dc15 pm15 cd15 ct15:Value}
 (a15:PySem.W.nsIn K mainGlobals "lets"=some (some (.ref f15))) (l15:K.lookup f15=some ⟨oc15,od15, .func (PySem.W.fnOf "lets" "lets" (zr zcO) (zp zcO) (zd zcO) .none kV15 dc15 pm15 an15 cd15 ct15),sl15⟩) (c15:PySem.W.codeIn K cd15 "lets"=true) (k15:PySem.W.keepIn K (.ref f15)=true)
 {f16:Addr} {od16 an16:Option Addr} {sl16:Array (Option Value)} {oc16 kV16 dc16 pm16 cd16 ct16:Value}
 (a16:PySem.W.nsIn K mainGlobals "_law_hand"=some (some (.ref f16))) (l16:K.lookup f16=some ⟨oc16,od16, .func (PySem.W.fnOf "_law_hand" "_law_hand" (zr za5) (zp za5) (zd za5) .none kV16 dc16 pm16 an16 cd16 ct16),sl16⟩) (c16:PySem.W.codeIn K cd16 "_law_hand"=true) (k16:PySem.W.keepIn K (.ref f16)=true)
 {f17:Addr} {od17 an17:Option Addr} {sl17:Array (Option Value)} {oc17 kV17 dc17 pm17 cd17 ct17:Value}
 (a17:PySem.W.nsIn K mainGlobals "_law_take"=some (some (.ref f17))) (l17:K.lookup f17=some ⟨oc17,od17, .func (PySem.W.fnOf "_law_take" "_law_take" (zr za1) (zp za1) (zd za1) .none kV17 dc17 pm17 an17 cd17 ct17),sl17⟩) (c17:PySem.W.codeIn K cd17 "_law_take"=true) (k17:PySem.W.keepIn K (.ref f17)=true)
 {f18:Addr} {od18 an18:Option Addr} {sl18:Array (Option Value)} {oc18 kV18 dc18 pm18 cd18 ct18:Value}
 (a18:PySem.W.nsIn K mainGlobals "_law_pick"=some (some (.ref f18))) (l18:K.lookup f18=some ⟨oc18,od18, .func (PySem.W.fnOf "_law_pick" "_law_pick" (zr za3) (zp za3) (zd za3) .none kV18 dc18 pm18 an18 cd18 ct18),sl18⟩) (c18:PySem.W.codeIn K cd18 "_law_pick"=true) (k18:PySem.W.keepIn K (.ref f18)=true)
 {f19:Addr} {od19 an19:Option Addr} {sl19:Array (Option Value)} {oc19 kV19 dc19 pm19 cd19 ct19:Value}
 (a19:PySem.W.nsIn K mainGlobals "_law_names"=some (some (.ref f19))) (l19:K.lookup f19=some ⟨oc19,od19, .func (PySem.W.fnOf "_law_names" "_law_names" (zr zai) (zp zai) (zd zai) .none kV19 dc19 pm19 an19 cd19 ct19),sl19⟩) (c19:PySem.W.codeIn K cd19 "_law_names"=true) (k19:PySem.W.keepIn K (.ref f19)=true)
 {f20:Addr} {od20 an20:Option Addr} {sl20:Array (Option Value)} {oc20 kV20 dc20 pm20 cd20 ct20:Value}
 (a20:PySem.W.nsIn K mainGlobals "_law_cond"=some (some (.ref f20))) (l20:K.lookup f20=some ⟨oc20,od20, .func (PySem.W.fnOf "_law_cond" "_law_cond" (zr za2) (zp za2) (zd za2) .none kV20 dc20 pm20 an20 cd20 ct20),sl20⟩) (c20:PySem.W.codeIn K cd20 "_law_cond"=true) (k20:PySem.W.keepIn K (.ref f20)=true)
 {f21:Addr} {od21 an21:Option Addr} {sl21:Array (Option Value)} {oc21 kV21 dc21 pm21 cd21 ct21:Value}
 (a21:PySem.W.nsIn K mainGlobals "_law_conds"=some (some (.ref f21))) (l21:K.lookup f21=some ⟨oc21,od21, .func (PySem.W.fnOf "_law_conds" "_law_conds" (zr zaj) (zp zaj) (zd zaj) .none kV21 dc21 pm21 an21 cd21 ct21),sl21⟩) (c21:PySem.W.codeIn K cd21 "_law_conds"=true) (k21:PySem.W.keepIn K (.ref f21)=true)
 {f22:Addr} {od22 an22:Option Addr} {sl22:Array (Option Value)} {oc22 kV22 dc22 pm22 cd22 ct22:Value}
 (a22:PySem.W.nsIn K mainGlobals "_law_likings"=some (some (.ref f22))) (l22:K.lookup f22=some ⟨oc22,od22, .func (PySem.W.fnOf "_law_likings" "_law_likings" (zr zac) (zp zac) (zd zac) .none kV22 dc22 pm22 an22 cd22 ct22),sl22⟩) (c22:PySem.W.codeIn K cd22 "_law_likings"=true) (k22:PySem.W.keepIn K (.ref f22)=true)
 {f23:Addr} {od23 an23:Option Addr} {sl23:Array (Option Value)} {oc23 kV23 dc23 pm23 cd23 ct23:Value}
 (a23:PySem.W.nsIn K mainGlobals "_law_hands"=some (some (.ref f23))) (l23:K.lookup f23=some ⟨oc23,od23, .func (PySem.W.fnOf "_law_hands" "_law_hands" (zr zaK) (zp zaK) (zd zaK) .none kV23 dc23 pm23 an23 cd23 ct23),sl23⟩) (c23:PySem.W.codeIn K cd23 "_law_hands"=true) (k23:PySem.W.keepIn K (.ref f23)=true)
 {f24:Addr} {od24 an24:Option Addr} {sl24:Array (Option Value)} {oc24 kV24 dc24 pm24 cd24 ct24:Value}
 (a24:PySem.W.nsIn K mainGlobals "_law_ties"=some (some (.ref f24))) (l24:K.lookup f24=some ⟨oc24,od24, .func (PySem.W.fnOf "_law_ties" "_law_ties" (zr za6) (zp za6) (zd za6) .none kV24 dc24 pm24 an24 cd24 ct24),sl24⟩) (c24:PySem.W.codeIn K cd24 "_law_ties"=true) (k24:PySem.W.keepIn K (.ref f24)=true)
 {f25:Addr} {od25 an25:Option Addr} {sl25:Array (Option Value)} {oc25 kV25 dc25 pm25 cd25 ct25:Value}
 (a25:PySem.W.nsIn K mainGlobals "_law_town"=some (some (.ref f25))) (l25:K.lookup f25=some ⟨oc25,od25, .func (PySem.W.fnOf "_law_town" "_law_town" (zr zae) (zp zae) (zd zae) .none kV25 dc25 pm25 an25 cd25 ct25),sl25⟩) (c25:PySem.W.codeIn K cd25 "_law_town"=true) (k25:PySem.W.keepIn K (.ref f25)=true)
 {f26:Addr} {od26 an26:Option Addr} {sl26:Array (Option Value)} {oc26 kV26 dc26 pm26 cd26 ct26:Value}
 (a26:PySem.W.nsIn K mainGlobals "_law_pieced"=some (some (.ref f26))) (l26:K.lookup f26=some ⟨oc26,od26, .func (PySem.W.fnOf "_law_pieced" "_law_pieced" (zr zam) (zp zam) (zd zam) .none kV26 dc26 pm26 an26 cd26 ct26),sl26⟩) (c26:PySem.W.codeIn K cd26 "_law_pieced"=true) (k26:PySem.W.keepIn K (.ref f26)=true)
 {f27:Addr} {od27 an27:Option Addr} {sl27:Array (Option Value)} {oc27 kV27 dc27 pm27 cd27 ct27:Value}
 (a27:PySem.W.nsIn K mainGlobals "_law_falls"=some (some (.ref f27))) (l27:K.lookup f27=some ⟨oc27,od27, .func (PySem.W.fnOf "_law_falls" "_law_falls" (zr zaG) (zp zaG) (zd zaG) .none kV27 dc27 pm27 an27 cd27 ct27),sl27⟩) (c27:PySem.W.codeIn K cd27 "_law_falls"=true) (k27:PySem.W.keepIn K (.ref f27)=true)
 {f28:Addr} {od28 an28:Option Addr} {sl28:Array (Option Value)} {oc28 kV28 dc28 pm28 cd28 ct28:Value}
 (a28:PySem.W.nsIn K mainGlobals "_law_goes_by"=some (some (.ref f28))) (l28:K.lookup f28=some ⟨oc28,od28, .func (PySem.W.fnOf "_law_goes_by" "_law_goes_by" (zr zY) (zp zY) (zd zY) .none kV28 dc28 pm28 an28 cd28 ct28),sl28⟩) (c28:PySem.W.codeIn K cd28 "_law_goes_by"=true) (k28:PySem.W.keepIn K (.ref f28)=true)
 {f29:Addr} {od29 an29:Option Addr} {sl29:Array (Option Value)} {oc29 kV29 dc29 pm29 cd29 ct29:Value}
 (a29:PySem.W.nsIn K mainGlobals "_law_without"=some (some (.ref f29))) (l29:K.lookup f29=some ⟨oc29,od29, .func (PySem.W.fnOf "_law_without" "_law_without" (zr z6) (zp z6) (zd z6) .none kV29 dc29 pm29 an29 cd29 ct29),sl29⟩) (c29:PySem.W.codeIn K cd29 "_law_without"=true) (k29:PySem.W.keepIn K (.ref f29)=true)
 {f30:Addr} {od30 an30:Option Addr} {sl30:Array (Option Value)} {oc30 kV30 dc30 pm30 cd30 ct30:Value}
 (a30:PySem.W.nsIn K mainGlobals "_law_untied"=some (some (.ref f30))) (l30:K.lookup f30=some ⟨oc30,od30, .func (PySem.W.fnOf "_law_untied" "_law_untied" (zr zR) (zp zR) (zd zR) .none kV30 dc30 pm30 an30 cd30 ct30),sl30⟩) (c30:PySem.W.codeIn K cd30 "_law_untied"=true) (k30:PySem.W.keepIn K (.ref f30)=true)
 {f31:Addr} {od31 an31:Option Addr} {sl31:Array (Option Value)} {oc31 kV31 dc31 pm31 cd31 ct31:Value}
 (a31:PySem.W.nsIn K mainGlobals "_law_idle"=some (some (.ref f31))) (l31:K.lookup f31=some ⟨oc31,od31, .func (PySem.W.fnOf "_law_idle" "_law_idle" (zr zaZ) (zp zaZ) (zd zaZ) .none kV31 dc31 pm31 an31 cd31 ct31),sl31⟩) (c31:PySem.W.codeIn K cd31 "_law_idle"=true) (k31:PySem.W.keepIn K (.ref f31)=true)
 {f32:Addr} {od32 an32:Option Addr} {sl32:Array (Option Value)} {oc32 kV32 dc32 pm32 cd32 ct32:Value}
 (a32:PySem.W.nsIn K mainGlobals "law"=some (some (.ref f32))) (l32:K.lookup f32=some ⟨oc32,od32, .func (PySem.W.fnOf "law" "law" (zr zb3) (zp zb3) (zd zb3) .none kV32 dc32 pm32 an32 cd32 ct32),sl32⟩) (c32:PySem.W.codeIn K cd32 "law"=true) (k32:PySem.W.keepIn K (.ref f32)=true)
 {tk_MOST_LET:Tok} (g_MOST_LET:PySem.W.nsIn K mainGlobals "MOST_LET"=some (some (.int 400 tk_MOST_LET)))
 (z_isinstance:PySem.W.nsIn K mainGlobals "isinstance"=some none)
 (z_str:PySem.W.nsIn K mainGlobals "str"=some none)
 (z_len:PySem.W.nsIn K mainGlobals "len"=some none)
 (z_int:PySem.W.nsIn K mainGlobals "int"=some none)
 (z_tuple:PySem.W.nsIn K mainGlobals "tuple"=some none)
 (z_range:PySem.W.nsIn K mainGlobals "range"=some none)
 (z_max:PySem.W.nsIn K mainGlobals "max"=some none)
 (z_min:PySem.W.nsIn K mainGlobals "min"=some none)
 (z_sorted:PySem.W.nsIn K mainGlobals "sorted"=some none)
 (z_enumerate:PySem.W.nsIn K mainGlobals "enumerate"=some none)
 (z_zip:PySem.W.nsIn K mainGlobals "zip"=some none)
 (z_dict:PySem.W.nsIn K mainGlobals "dict"=some none)
 (z_all:PySem.W.nsIn K mainGlobals "all"=some none)
 (z_reversed:PySem.W.nsIn K mainGlobals "reversed"=some none)
 (z_repr:PySem.W.nsIn K mainGlobals "repr"=some none)
 (z_any:PySem.W.nsIn K mainGlobals "any"=some none)
 :∃fd:FuncData,(∀(s:Shared) (v:Value),BindsTo s fd ⟨[v],[]⟩ [("_law_script",v)])/\∀base:Heap,K.In base->base.Ns mainGlobals mg->FnOk l.prog w K mg base CX0 10 fa fd ["_law_script"] (ziA K):=by
 have e:=hfa.symm.trans (PySem.W.mg_of X G a32)
 cases e
 have F1:=ziE (st:=zc2) l1 ld1 c1 k1
 have F2:=ziE (st:=zbr) l2 ld2 c2 k2
 have F3:=zK (st:=zaL) l3 c3 k3
 have F4:=zK (st:=zbl) l4 c4 k4
 have F5:=zK (st:=zcJ) l5 c5 k5
 have F6:=zK (st:=zZ) l6 c6 k6
 have F7:=zK (st:=zci) l7 c7 k7
 have F8:=zK (st:=zcV) l8 c8 k8
 have F9:=zK (st:=zaE) l9 c9 k9
 have F10:=zK (st:=zaJ) l10 c10 k10
 have F11:=zK (st:=zA) l11 c11 k11
 have F12:=zK (st:=zal) l12 c12 k12
 have F13:=zK (st:=zbm) l13 c13 k13
 have F14:=zK (st:=za4) l14 c14 k14
 have F15:=zK (st:=zcO) l15 c15 k15
 have F16:=zK (st:=za5) l16 c16 k16
 have F17:=zK (st:=za1) l17 c17 k17
 have F18:=zK (st:=za3) l18 c18 k18
 have F19:=zK (st:=zai) l19 c19 k19
 have F20:=zK (st:=za2) l20 c20 k20
 have F21:=zK (st:=zaj) l21 c21 k21
 have F22:=zK (st:=zac) l22 c22 k22
 have F23:=zK (st:=zaK) l23 c23 k23
 have F24:=zK (st:=za6) l24 c24 k24
 have F25:=zK (st:=zae) l25 c25 k25
 have F26:=zK (st:=zam) l26 c26 k26
 have F27:=zK (st:=zaG) l27 c27 k27
 have F28:=zK (st:=zY) l28 c28 k28
 have F29:=zK (st:=z6) l29 c29 k29
 have F30:=zK (st:=zR) l30 c30 k30
 have F31:=zK (st:=zaZ) l31 c31 k31
 have F32:=zK (st:=zb3) l32 c32 k32
 have b1:=F1.binds (ps:=zbP) (ds:=[]) 4 rfl λ_ _ _ _ _ _ _=>of4 (λ_ _ _ _=>⟨_,rfl,rfl⟩)
 have e1:=F1.binds (ps:=zbP) (ds:=[.none]) 3 rfl λ_ _ _ _ _ _ _=>of3 (λ_ _ _=>⟨_,rfl,rfl⟩)
 have b2:=F2.binds (ps:=zaW) (ds:=[]) 4 rfl λ_ _ _ _ _ _ _=>of4 (λ_ _ _ _=>⟨_,rfl,rfl⟩)
 have e2:=F2.binds (ps:=zaW) (ds:=[.none]) 3 rfl λ_ _ _ _ _ _ _=>of3 (λ_ _ _=>⟨_,rfl,rfl⟩)
 have b3:=F3.binds (ps:=zbd) λ_ _ _ _ _ _=>of2 (λ_ _=>rfl)
 have b4:=F4.binds (ps:=zbU) λ_ _ _ _ _ _=>of2 (λ_ _=>rfl)
 have b5:=F5.binds (ps:=zeS) λ_ _ _ _ _ _=>of2 (λ_ _=>rfl)
 have b6:=F6.binds (ps:=zaz) λ_ _ _ _ _ _=>of2 (λ_ _=>rfl)
 have b7:=F7.binds (ps:=zcf) λ_ _ _ _ _ _=>of4 (λ_ _ _ _=>rfl)
 have b8:=F8.binds (ps:=zcr) λ_ _ _ _ _ _=>of3 (λ_ _ _=>rfl)
 have b9:=F9.binds (ps:=zaF) λ_ _ _ _ _ _=>of3 (λ_ _ _=>rfl)
 have b10:=F10.binds (ps:=zbj) λ_ _ _ _ _ _=>of3 (λ_ _ _=>rfl)
 have b11:=F11.binds (ps:=z7) λ_ _ _ _ _ _=>of2 (λ_ _=>rfl)
 have b12:=F12.binds (ps:=zan) λ_ _ _ _ _ _=>of4 (λ_ _ _ _=>rfl)
 have b13:=F13.binds (ps:=zay) λ_ _ _ _ _ _=>of2 (λ_ _=>rfl)
 have b14:=F14.binds (ps:=zbw) λ_ _ _ _ _ _=>of1 (λ_=>rfl)
 have b15:=F15.binds (ps:=zdT) λ_ _ _ _ _ _=>of1 (λ_=>rfl)
 have b16:=F16.binds (ps:=zbz) λ_ _ _ _ _ _=>of2 (λ_ _=>rfl)
 have b17:=F17.binds (ps:=zN) λ_ _ _ _ _ _=>of2 (λ_ _=>rfl)
 have b18:=F18.binds (ps:=zM) λ_ _ _ _ _ _=>of2 (λ_ _=>rfl)
 have b19:=F19.binds (ps:=zbg) λ_ _ _ _ _ _=>of2 (λ_ _=>rfl)
 have b20:=F20.binds (ps:=zbB) λ_ _ _ _ _ _=>of4 (λ_ _ _ _=>rfl)
 have b21:=F21.binds (ps:=zaM) λ_ _ _ _ _ _=>of4 (λ_ _ _ _=>rfl)
 have b22:=F22.binds (ps:=zaw) λ_ _ _ _ _ _=>of3 (λ_ _ _=>rfl)
 have b23:=F23.binds (ps:=zbf) λ_ _ _ _ _ _=>of3 (λ_ _ _=>rfl)
 have b24:=F24.binds (ps:=zbG) λ_ _ _ _ _ _=>of3 (λ_ _ _=>rfl)
 have b25:=F25.binds (ps:=zbE) λ_ _ _ _ _ _=>of1 (λ_=>rfl)
 have b26:=F26.binds (ps:=zaS) λ_ _ _ _ _ _=>of3 (λ_ _ _=>rfl)
 have b27:=F27.binds (ps:=za7) λ_ _ _ _ _ _=>of2 (λ_ _=>rfl)
 have b28:=F28.binds (ps:=zat) λ_ _ _ _ _ _=>of2 (λ_ _=>rfl)
 have b29:=F29.binds (ps:=zaA) λ_ _ _ _ _ _=>of2 (λ_ _=>rfl)
 have b30:=F30.binds (ps:=zaR) λ_ _ _ _ _ _=>of3 (λ_ _ _=>rfl)
 have b31:=F31.binds (ps:=zbI) λ_ _ _ _ _ _=>of2 (λ_ _=>rfl)
 have b32:=F32.binds (ps:=ziF) λ_ _ _ _ _ _=>of1 (λ_=>rfl)
 have Y:Ev K mg:={
  a_holds:=f1,d_holds:=_,holds:=⟨F1,b1,e1,PySem.W.mg_of X G a1,k1⟩,
  a_all_hold:=f2,d_all_hold:=_,all_hold:=⟨F2,b2,e2,PySem.W.mg_of X G a2,k2⟩,
  a_likings_of:=f3,d_likings_of:=_,likings_of:=⟨F3,b3,PySem.W.mg_of X G a3,k3⟩,
  a_hands_of:=f4,d_hands_of:=_,hands_of:=⟨F4,b4,PySem.W.mg_of X G a4,k4⟩,
  a_tied:=f5,d_tied:=_,tied:=⟨F5,b5,PySem.W.mg_of X G a5,k5⟩,
  a_marks_behind:=f6,d_marks_behind:=_,marks_behind:=⟨F6,b6,PySem.W.mg_of X G a6,k6⟩,
  a_handed:=f7,d_handed:=_,handed:=⟨F7,b7,PySem.W.mg_of X G a7,k7⟩,
  a_worth:=f8,d_worth:=_,worth:=⟨F8,b8,PySem.W.mg_of X G a8,k8⟩,
  a_liking_key:=f9,d_liking_key:=_,liking_key:=⟨F9,b9,PySem.W.mg_of X G a9,k9⟩,
  a_likes_more:=f10,d_likes_more:=_,likes_more:=⟨F10,b10,PySem.W.mg_of X G a10,k10⟩,
  a_most_liked_first:=f11,d_most_liked_first:=_,most_liked_first:=⟨F11,b11,PySem.W.mg_of X G a11,k11⟩,
  a_marks_ahead:=f12,d_marks_ahead:=_,marks_ahead:=⟨F12,b12,PySem.W.mg_of X G a12,k12⟩,
  a_marks_of:=f13,d_marks_of:=_,marks_of:=⟨F13,b13,PySem.W.mg_of X G a13,k13⟩,
  a_let_marks:=f14,d_let_marks:=_,let_marks:=⟨F14,b14,PySem.W.mg_of X G a14,k14⟩,
  a_lets:=f15,d_lets:=_,lets:=⟨F15,b15,PySem.W.mg_of X G a15,k15⟩,
  a__law_hand:=f16,d__law_hand:=_,_law_hand:=⟨F16,b16,PySem.W.mg_of X G a16,k16⟩,
  a__law_take:=f17,d__law_take:=_,_law_take:=⟨F17,b17,PySem.W.mg_of X G a17,k17⟩,
  a__law_pick:=f18,d__law_pick:=_,_law_pick:=⟨F18,b18,PySem.W.mg_of X G a18,k18⟩,
  a__law_names:=f19,d__law_names:=_,_law_names:=⟨F19,b19,PySem.W.mg_of X G a19,k19⟩,
  a__law_cond:=f20,d__law_cond:=_,_law_cond:=⟨F20,b20,PySem.W.mg_of X G a20,k20⟩,
  a__law_conds:=f21,d__law_conds:=_,_law_conds:=⟨F21,b21,PySem.W.mg_of X G a21,k21⟩,
  a__law_likings:=f22,d__law_likings:=_,_law_likings:=⟨F22,b22,PySem.W.mg_of X G a22,k22⟩,
  a__law_hands:=f23,d__law_hands:=_,_law_hands:=⟨F23,b23,PySem.W.mg_of X G a23,k23⟩,
  a__law_ties:=f24,d__law_ties:=_,_law_ties:=⟨F24,b24,PySem.W.mg_of X G a24,k24⟩,
  a__law_town:=f25,d__law_town:=_,_law_town:=⟨F25,b25,PySem.W.mg_of X G a25,k25⟩,
  a__law_pieced:=f26,d__law_pieced:=_,_law_pieced:=⟨F26,b26,PySem.W.mg_of X G a26,k26⟩,
  a__law_falls:=f27,d__law_falls:=_,_law_falls:=⟨F27,b27,PySem.W.mg_of X G a27,k27⟩,
  a__law_goes_by:=f28,d__law_goes_by:=_,_law_goes_by:=⟨F28,b28,PySem.W.mg_of X G a28,k28⟩,
  a__law_without:=f29,d__law_without:=_,_law_without:=⟨F29,b29,PySem.W.mg_of X G a29,k29⟩,
  a__law_untied:=f30,d__law_untied:=_,_law_untied:=⟨F30,b30,PySem.W.mg_of X G a30,k30⟩,
  a__law_idle:=f31,d__law_idle:=_,_law_idle:=⟨F31,b31,PySem.W.mg_of X G a31,k31⟩,
  a_law:=fa,d_law:=_,law:=⟨F32,b32,PySem.W.mg_of X G a32,k32⟩,
  v_MOST_LET:=_,m_MOST_LET:=PySem.W.mg_of X G g_MOST_LET,r_MOST_LET:=⟨tk_MOST_LET,rfl⟩,
  isinstance:=PySem.W.mg_none_of X G z_isinstance,
  str:=PySem.W.mg_none_of X G z_str,
  len:=PySem.W.mg_none_of X G z_len,
  int:=PySem.W.mg_none_of X G z_int,
  tuple:=PySem.W.mg_none_of X G z_tuple,
  range:=PySem.W.mg_none_of X G z_range,
  max:=PySem.W.mg_none_of X G z_max,
  min:=PySem.W.mg_none_of X G z_min,
  sorted:=PySem.W.mg_none_of X G z_sorted,
  enumerate:=PySem.W.mg_none_of X G z_enumerate,
  zip:=PySem.W.mg_none_of X G z_zip,
  dict:=PySem.W.mg_none_of X G z_dict,
  all:=PySem.W.mg_none_of X G z_all,
  reversed:=PySem.W.mg_none_of X G z_reversed,
  repr:=PySem.W.mg_none_of X G z_repr,
  any:=PySem.W.mg_none_of X G z_any}
 exact⟨PySem.W.fnOf "law" "law" (zr zb3) (zp zb3) (zd zb3) .none kV32 dc32 pm32 an32 cd32 ct32,λs v=> .of_eq rfl,λbase _ _=>zjH Y F32⟩
def vw:Program:={PySem.Challenge.pw_restways_k20_whole_let_ways_and_ties with main:={PySem.Challenge.pw_restways_k20_whole_let_ways_and_ties.main with body:=([1,2,7,8,9,11,12,14,15,16,17,19,20,21,22,23,25,26,27,28,29,30,31,32,33,34,35,36,37,38,39,40,41]:List Nat).filterMap λi=>PySem.Challenge.pw_restways_k20_whole_let_ways_and_ties.main.body[i]?}}
end K20
open PySem PySem.W PyProof.Rows
local macro_rules | `(tactic|o_head $H)=> `(tactic|(
 refine holds_open (N:=3032) (q:=K20.vw) (loose:=[(PySem.Str.ofString "holds"),(PySem.Str.ofString "all_hold")]) (YP:=Hook.says $H) (Ya:=Hook.val $H) (Yf:=Hook.obs $H) (XP:=XL K20.vw [])
  (Xt:=λz=>xlAt K20.vw [] z&&recOk [] z) (λw=>by kernel_rfl) (Hook.of $H) (Hook.keeps $H) (λz e=>xl_of z (Bool.and_eq_true_iff.mp e).1) XL.keeps
  (by rfl) (by rfl) (by rfl) (λz e=>recFacts_of (Bool.and_eq_true_iff.mp e).2) (by rfl) (by first|assumption|decide +kernel) (by decide +kernel)
  ⟨rfl,rfl,rfl,rfl,rfl,by decide +kernel⟩ ?hw ?hc))
set_option maxRecDepth 100000 in
set_option maxHeartbeats 0 in
theorem PySem.Challenge.cw_restways_k20_whole_let_ways_and_ties_holds : PySem.Challenge.rw_restways_k20_whole_let_ways_and_ties.Holds := by
 w_on;o_law;k_head;(case hw=>w_witness2)
 k_fill
 refine K20.walk (l:=PySem.Challenge.rw_restways_k20_whole_let_ways_and_ties) rfl rfl (λw h Y=>PySem.W.kIn_of Y) ?F
 case F=>
  intro w mg fa h KX G hmg
  refine' K20.all_mk KX G hmg ?a1 ?l1 ?c1 ?k1 ?ld1 ?a2 ?l2 ?c2 ?k2 ?ld2 ?a3 ?l3 ?c3 ?k3 ?a4 ?l4 ?c4 ?k4 ?a5 ?l5 ?c5 ?k5 ?a6 ?l6 ?c6 ?k6 ?a7 ?l7 ?c7 ?k7 ?a8 ?l8 ?c8 ?k8 ?a9 ?l9 ?c9 ?k9 ?a10 ?l10 ?c10 ?k10 ?a11 ?l11 ?c11 ?k11 ?a12 ?l12 ?c12 ?k12 ?a13 ?l13 ?c13 ?k13 ?a14 ?l14 ?c14 ?k14 ?a15 ?l15 ?c15 ?k15 ?a16 ?l16 ?c16 ?k16 ?a17 ?l17 ?c17 ?k17 ?a18 ?l18 ?c18 ?k18 ?a19 ?l19 ?c19 ?k19 ?a20 ?l20 ?c20 ?k20 ?a21 ?l21 ?c21 ?k21 ?a22 ?l22 ?c22 ?k22 ?a23 ?l23 ?c23 ?k23 ?a24 ?l24 ?c24 ?k24 ?a25 ?l25 ?c25 ?k25 ?a26 ?l26 ?c26 ?k26 ?a27 ?l27 ?c27 ?k27 ?a28 ?l28 ?c28 ?k28 ?a29 ?l29 ?c29 ?k29 ?a30 ?l30 ?c30 ?k30 ?a31 ?l31 ?c31 ?k31 ?a32 ?l32 ?c32 ?k32 ?g_MOST_LET ?z_isinstance ?z_str ?z_len ?z_int ?z_tuple ?z_range ?z_max ?z_min ?z_sorted ?z_enumerate ?z_zip ?z_dict ?z_all ?z_reversed ?z_repr ?z_any
  (case a1=>k_is)
  (case l1=>k_is)
  (case c1=>k_is)
  (case k1=>k_is)
  (case ld1=>k_is)
  (case a2=>k_is)
  (case l2=>k_is)
  (case c2=>k_is)
  (case k2=>k_is)
  (case ld2=>k_is)
  (case a3=>k_is)
  (case l3=>k_is)
  (case c3=>k_is)
  (case k3=>k_is)
  (case a4=>k_is)
  (case l4=>k_is)
  (case c4=>k_is)
  (case k4=>k_is)
  (case a5=>k_is)
  (case l5=>k_is)
  (case c5=>k_is)
  (case k5=>k_is)
  (case a6=>k_is)
  (case l6=>k_is)
  (case c6=>k_is)
  (case k6=>k_is)
  (case a7=>k_is)
  (case l7=>k_is)
  (case c7=>k_is)
  (case k7=>k_is)
  (case a8=>k_is)
  (case l8=>k_is)
  (case c8=>k_is)
  (case k8=>k_is)
  (case a9=>k_is)
  (case l9=>k_is)
  (case c9=>k_is)
  (case k9=>k_is)
  (case a10=>k_is)
  (case l10=>k_is)
  (case c10=>k_is)
  (case k10=>k_is)
  (case a11=>k_is)
  (case l11=>k_is)
  (case c11=>k_is)
  (case k11=>k_is)
  (case a12=>k_is)
  (case l12=>k_is)
  (case c12=>k_is)
  (case k12=>k_is)
  (case a13=>k_is)
  (case l13=>k_is)
  (case c13=>k_is)
  (case k13=>k_is)
  (case a14=>k_is)
  (case l14=>k_is)
  (case c14=>k_is)
  (case k14=>k_is)
  (case a15=>k_is)
  (case l15=>k_is)
  (case c15=>k_is)
  (case k15=>k_is)
  (case a16=>k_is)
  (case l16=>k_is)
  (case c16=>k_is)
  (case k16=>k_is)
  (case a17=>k_is)
  (case l17=>k_is)
  (case c17=>k_is)
  (case k17=>k_is)
  (case a18=>k_is)
  (case l18=>k_is)
  (case c18=>k_is)
  (case k18=>k_is)
  (case a19=>k_is)
  (case l19=>k_is)
  (case c19=>k_is)
  (case k19=>k_is)
  (case a20=>k_is)
  (case l20=>k_is)
  (case c20=>k_is)
  (case k20=>k_is)
  (case a21=>k_is)
  (case l21=>k_is)
  (case c21=>k_is)
  (case k21=>k_is)
  (case a22=>k_is)
  (case l22=>k_is)
  (case c22=>k_is)
  (case k22=>k_is)
  (case a23=>k_is)
  (case l23=>k_is)
  (case c23=>k_is)
  (case k23=>k_is)
  (case a24=>k_is)
  (case l24=>k_is)
  (case c24=>k_is)
  (case k24=>k_is)
  (case a25=>k_is)
  (case l25=>k_is)
  (case c25=>k_is)
  (case k25=>k_is)
  (case a26=>k_is)
  (case l26=>k_is)
  (case c26=>k_is)
  (case k26=>k_is)
  (case a27=>k_is)
  (case l27=>k_is)
  (case c27=>k_is)
  (case k27=>k_is)
  (case a28=>k_is)
  (case l28=>k_is)
  (case c28=>k_is)
  (case k28=>k_is)
  (case a29=>k_is)
  (case l29=>k_is)
  (case c29=>k_is)
  (case k29=>k_is)
  (case a30=>k_is)
  (case l30=>k_is)
  (case c30=>k_is)
  (case k30=>k_is)
  (case a31=>k_is)
  (case l31=>k_is)
  (case c31=>k_is)
  (case k31=>k_is)
  (case a32=>k_is)
  (case l32=>k_is)
  (case c32=>k_is)
  (case k32=>k_is)
  (case g_MOST_LET=>k_is)
  (case z_isinstance=>k_is)
  (case z_str=>k_is)
  (case z_len=>k_is)
  (case z_int=>k_is)
  (case z_tuple=>k_is)
  (case z_range=>k_is)
  (case z_max=>k_is)
  (case z_min=>k_is)
  (case z_sorted=>k_is)
  (case z_enumerate=>k_is)
  (case z_zip=>k_is)
  (case z_dict=>k_is)
  (case z_all=>k_is)
  (case z_reversed=>k_is)
  (case z_repr=>k_is)
  (case z_any=>k_is)
