import PyProof.Rows.All
import Wide.All
import OpenK.AllK
import Wide.FinOn
import Lean
import PyProof.EqAt
import PyProof.EqKinds
import PyProof.TupleCall
import KE.KSortTup
import KE.KDictSum
import PyProof.Rows.SortStr
import PyProof.AutoSeq1
import PyProof.ZipIter
import PyProof.Rows.FStr
import PyProof.Rows.FStrParts
import PyProof.AttrMissHeap
import KE.KDictOf
import PyProof.StrCalls
import KE.KStrOpen
import KE.KRevIter
import PyProof.WalkInts
import KE.KDictList
import PyProof.Rows.SetFrom
import PyProof.SetRoads
import PyProof.DictCompW
import PyProof.DictItems
import KE.KPairComp
import KE.KEqDict
import PyProof.Rows.Range3
import PyProof.WalksMore
import PyProof.DictWalks
import KE.KMinKey
import PySem.Challenge.RW_restways_k39_houses_hear
set_option Elab.async false
set_option linter.all false
set_option maxRecDepth 100000
namespace L2
open PySem PySem.Spec PyProof.Rows
noncomputable abbrev Key:=Sum Int Str
noncomputable def zfh:Key->Value->Bool
 | .inl k,v=>Value.isInt k v
 | .inr x,v=>Value.isStrOf x v
noncomputable def zqX(w:World):Key->Int
 | .inl k=>hashInt k
 | .inr x=>hashStr w x
theorem z6:∀{k:Key} {v:Value},zfh k v=true->(∃i t,k=Sum.inl i/\v=Value.int i t)\/(∃x t,k=Sum.inr x/\v=Value.str x t)
 | .inl i,v,h=>by
   obtain⟨t,e⟩:=Value.isInt_shape (k:=i) (v:=v) h
   exact .inl ⟨i,t,rfl,e⟩
 | .inr x,v,h=>by
   obtain⟨t,e⟩:=Value.isStrOf_shape (x:=x) (v:=v) h
   exact .inr ⟨x,t,rfl,e⟩
theorem zkU(i:Int)(t:Tok):zfh (.inl i) (.int i t)=true:=by simp[zfh,Value.isInt]
theorem zkZ(x:Str)(t:Tok):zfh (.inr x) (.str x t)=true:=by simp[zfh,Value.isStrOf]
theorem zpK(a b:Int):decide ((Sum.inl a:Key)=Sum.inl b)=(a==b):=by
 by_cases e:a=b
 ·subst e;simp
 ·have h:¬(Sum.inl a:Key)=Sum.inl b:=λq=>e (Sum.inl.inj q)
  rw[decide_eq_false h]
  exact(beq_eq_false_iff_ne.mpr e).symm
theorem zpa(a b:Str):decide ((Sum.inr a:Key)=Sum.inr b)=decide (a=b):=by
 by_cases e:a=b
 ·subst e;simp
 ·have h:¬(Sum.inr a:Key)=Sum.inr b:=λq=>e (Sum.inr.inj q)
  rw[decide_eq_false h,decide_eq_false e]
theorem zpX(a:Int)(b:Str):decide ((Sum.inl a:Key)=Sum.inr b)=false:=decide_eq_false (λq=>nomatch q)
theorem zpG(a:Str)(b:Int):decide ((Sum.inr a:Key)=Sum.inl b)=false:=decide_eq_false (λq=>nomatch q)
noncomputable def zU(prog:Program)(w:World):PySem.KeyKind prog w Key where
 is:=zfh
 hash:=zqX w
 inj:=λv a b ha hb=>by
  rcases z6 ha with⟨i,t,rfl,rfl⟩|⟨x,t,rfl,rfl⟩
  ·rcases z6 hb with⟨j,u,rfl,e⟩|⟨y,u,rfl,e⟩
   ·injection e with e1 _;rw[e1]
   ·exact nomatch e
  ·rcases z6 hb with⟨j,u,rfl,e⟩|⟨y,u,rfl,e⟩
   ·exact nomatch e
   ·injection e with e1 _;rw[e1]
 byValue:=λk v h=>by
   rcases z6 h with⟨i,t,rfl,rfl⟩|⟨x,t,rfl,rfl⟩<;>rfl
 pyHash:=λhv h=>by
  rcases z6 hv with⟨i,t,rfl,rfl⟩|⟨x,t,rfl,rfl⟩
  ·exact wpAny_pyHash_int h
  ·exact wpAny_pyHash_str h
 eqBool:=λhu hv h=>by
  rcases z6 hu with⟨i,t,rfl,rfl⟩|⟨x,t,rfl,rfl⟩
  ·rcases z6 hv with⟨j,u,rfl,rfl⟩|⟨y,u,rfl,rfl⟩
   ·rw[zpK] at h;exact wpAny_eqBool_int h
   ·rw[zpX] at h;exact SeqAt.EqAt.int_str i t y u _ _ _ _ h
  ·rcases z6 hv with⟨j,u,rfl,rfl⟩|⟨y,u,rfl,rfl⟩
   ·rw[zpG] at h;exact SeqAt.EqAt.str_int x t j u _ _ _ _ h
   ·rw[zpa] at h;exact wpAny_eqBool_str h
 «strs»:=λk x t v h=>by
  rcases z6 h with⟨i,u,rfl,e⟩|⟨y,u,rfl,e⟩
  ·exact nomatch e
  ·injection e with e1 _
   subst e1
   cases v<;>rfl
theorem zh9(prog:Program)(w:World)(i:Int)(t:Tok):(zU prog w).is (.inl i) (.int i t)=true:=zkU i t
theorem ziB(prog:Program)(w:World)(x:Str)(t:Tok):(zU prog w).is (.inr x) (.str x t)=true:=zkZ x t
inductive V where
 |non|bl (b:Bool)|int (i:Int)|str (x:Str)|byt (b:Array UInt8)|flt (b:UInt64)|ref (a:Addr)|ty (n:String)
 deriving DecidableEq
def RelV:V->Value->Prop
 | .non,u=>u=Value.none
 | .bl b,u=>u=Value.bool b
 | .int i,u=>∃t,u=Value.int i t
 | .str x,u=>∃t,u=Value.str x t
 | .byt b,u=>∃t,u=Value.bytes b t
 | .flt b,u=>∃t,u=Value.float b t
 | .ref a,u=>u=Value.ref a
 | .ty n,u=>u=Value.type n
abbrev Vals:List V->List Value->Prop:=Paired RelV
theorem Vals.length{xs:List V}{us:List Value}(r:Vals xs us):xs.length=us.length:=Paired.length r
theorem Vals.get:∀{xs:List V} {us:List Value} {i:Nat} {x:V},Vals xs us->xs[i]?=some x->∃u,us[i]?=some u/\RelV x u
 |_,_,_,_, .nil,e=>by simp at e
 |_,_,0,_, .cons r _,e=>by simp at e;subst e;exact⟨_,rfl,r⟩
 |_,_,i+1,x, .cons _ t,e=>by
  obtain⟨u,h1,h2⟩:=Vals.get (i:=i) (x:=x) t (by simpa using e)
  exact⟨u,by simpa using h1,h2⟩
theorem Vals.set{x:V}{u:Value}(r:RelV x u):∀{xs:List V} {us:List Value} (i:Nat),Vals xs us->Vals (xs.set i x) (us.set i u)
 |_,_,_, .nil=> .nil
 |_,_,0, .cons _ t=> .cons r t
 |_,_,i+1, .cons q t=> .cons q (Vals.set r i t)
theorem Vals.append:∀{xs ys:List V} {us ws:List Value},Vals xs us->Vals ys ws->Vals (xs ++ys) (us ++ws)
 |_,_,_,_, .nil,s=>s
 |_,_,_,_, .cons r t,s=> .cons r (Vals.append t s)
theorem Vals.take:∀{xs:List V} {us:List Value} (n:Nat),Vals xs us->Vals (xs.take n) (us.take n)
 |_,_,0,_=> .nil
 |_,_,_+1, .nil=> .nil
 |_,_,n+1, .cons r t=> .cons r (Vals.take n t)
theorem Vals.drop:∀{xs:List V} {us:List Value} (n:Nat),Vals xs us->Vals (xs.drop n) (us.drop n)
 |_,_,0,r=>r
 |_,_,_+1, .nil=> .nil
 |_,_,n+1, .cons _ t=>Vals.drop n t
def RelO:Option V->Option Value->Prop
 |some v,some u=>RelV v u
 |none,none=>True
 |_,_=>False
def KV{κ:Type}:List (κ×V)->List (κ×Value)->Prop:=Paired λ(p:κ×V) (q:κ×Value)=>p.1=q.1/\RelV p.2 q.2
noncomputable def kV:Key->V
 | .inl i=> .int i
 | .inr x=> .str x
inductive HO where
 |lst (xs:List V)
 |tup (xs:List V)
 |dK (kvs:List (Key×V))|dT (kvs:List (List Key×V))
 |set (S:Int->Bool) (n:Nat)
 |ins (C dx:Addr) (fs:List (Str×V))
 |own (x:Addr)
 |xd (fs:List (Str×V))
 |met (f x:Addr)
 |rng (lo hi:Int)
 |frz (o:Obj) (u:HO)
 |tbl (ps:Array Value)
 |ext (φ:Heap->Prop)
noncomputable abbrev Hp:=Addr->Option HO
noncomputable def upd(H:Hp)(a:Addr)(o:HO):Hp:=λb=>if b=a then some o else H b
theorem zb{H:Hp}{a:Addr}{o:HO}:upd H a o a=some o:=by unfold upd;rw[if_pos rfl]
theorem zh{H:Hp}{a b:Addr}{o:HO}(h:b≠a):upd H a o b=H b:=by unfold upd;rw[if_neg h]
theorem zkj{H:Hp}{a:Addr}{o u:HO}:upd (upd H a o) a u=upd H a u:=by
 funext b;unfold upd;split<;>rfl
theorem zB{H:Hp}{a b:Addr}{o u:HO}(h:H a=some o)(h':H b=some u)(d:o≠u):a≠b:=by
 intro e;subst e;rw[h] at h';exact d (Option.some.inj h')
theorem ze{H:Hp}{a b:Addr}{o:HO}(h:H a=some o)(h':H b=none):a≠b:=by
 intro e;subst e;rw[h] at h';cases h'
section
variable(P:Program)(w:World)
def NoDict(h:Heap)(a:Addr):Prop:=∀o,h.get? a=some o->o.dict=none
theorem NoDict.new{h:Heap}{o:Obj}(e:o.dict=none)(f:(h.push o).get? h.objs.size=some o):NoDict (h.push o) h.objs.size:=λo' z=>by rw[f] at z;cases z;exact e
def ObjOk(H:Hp)(h:Heap)(a:Addr):HO->Prop
 | .lst xs=>xs.length<=sizeLine/\∃(its:List Value) (n:Nat),Vals xs its/\h.get? a=some {cls:= .type "list",data:= .seq its.toArray n}
 | .tup xs=>xs.length<=sizeLine/\∃its:List Value,Vals xs its/\IsTup h a its.toArray/\NoDict h a
 | .dK kvs=>kvs.length<=sizeLine/\(a==sysModules)=false/\∃vs,KV kvs vs/\h.DictOf (zU P w) a vs
 | .dT kvs=>kvs.length<=sizeLine/\(a==sysModules)=false/\∃xs:List (List Key×Addr×Value),
    Paired (λ(p:List Key×V) (q:List Key×Addr×Value)=>p.1=q.1/\H q.2.1=some (.tup (p.1.map kV))/\RelV p.2 q.2.2) kvs xs/\
    ∃o es ep,h.get? a=some o/\o.ExactDict/\o.data= .dict es ep/\es.toList=xs.map (entryOfKey (tupleKind (zU P w)))/\(xs.map (·.1)).Nodup
 | .set S n=>h.SetOf (intKind P w) a S n
 | .ins C dx fs=>H dx=some (.own a)/\fs.length<=1000/\dx≠a/\h.get? a=some (PySem.W.instObj C dx)/\
    ∃mA,h.Ns1 dx mA/\(∀f,RelO (fs.lookup f) (mA f))/\PySem.Within mA (fs.map (·.1))
 | .own _=>∃o,h.get? a=some o
 | .xd fs=>∃mA,h.Ns1 a mA/\∀f,RelO (fs.lookup f) (mA f)
 | .rng lo hi=>∃t u v,h.get? a=some {cls:= .type "range",data:= .fields #[.int lo t, .int hi u, .int 1 v]}
 | .frz o u=>h.get? a=some o/\ObjOk H h a u
 | .tbl ps=>h.get? a=some {cls:= .none,data:= .fields ps}
 | .met f x=>h.get? a=some (PySem.W.methodObj (.ref f) (.ref x))
 | .ext φ=>φ h/\(∃o,h.get? a=some o)/\∀h1 h2:Heap,φ h1->(∀o,h1.get? a=some o->h2.get? a=some o)->φ h2
def HOk(H:Hp)(h:Heap):Prop:=∀a o,H a=some o->ObjOk P w H h a o
end
section
variable{P:Program}{w:World}{H H':Hp}{h h':Heap}{a:Addr}{o:HO}
theorem ObjOk.lt(x:ObjOk P w H h a o):a<h.objs.size:=by
 cases o with
 |lst xs=>obtain ⟨_,_,_,_,e⟩:=x;exact Heap.lt_size e
 |tup xs=>obtain ⟨_,_,_,p,_⟩:=x;exact p.lt
 |dK kvs=>obtain ⟨_,_,_,_,o,_,_,e,_⟩:=x;exact Heap.lt_size e
 |dT kvs=>obtain ⟨_,_,_,_,o,_,_,e,_⟩:=x;exact Heap.lt_size e
 |set S n=>obtain ⟨o,_,_,_,e,_⟩:=x;exact Heap.lt_size e
 |ins C dx fs=>obtain ⟨_,_,_,e,_⟩:=x;exact Heap.lt_size e
 |own y=>obtain ⟨_,e⟩:=x;exact Heap.lt_size e
 |xd fs=>obtain ⟨_,⟨_,_,_,e,_⟩,_⟩:=x;exact Heap.lt_size e
 |rng lo hi=>obtain ⟨_,_,_,e⟩:=x;exact Heap.lt_size e
 |frz ob u=>obtain ⟨e,_⟩:=x;exact Heap.lt_size e
 |tbl ps=>exact Heap.lt_size (show h.get? a=some _ from x)
 |met f y=>exact Heap.lt_size (show h.get? a=some _ from x)
 |ext φ=>obtain ⟨_,⟨_,e⟩,_⟩:=x;exact Heap.lt_size e
theorem Paired.mapP{α β:Type}{F G:α->β->Prop}:∀{l₁:List α} {l₂:List β},Paired F l₁ l₂->(∀a b,F a b->G a b)->Paired G l₁ l₂
 |_,_, .nil,_=> .nil
 |_,_, .cons r t,f=> .cons (f _ _ r) (Paired.mapP t f)
theorem ObjOk.stay(x:ObjOk P w H h a o)(k:∀b u,(b=a\/H b=some (.own a))->h.get? b=some u->h'.get? b=some u)
 (ho:∀b,H b=some (.own a)->H' b=some (.own a)) (ht:∀b xs,H b=some (.tup xs)->H' b=some (.tup xs)):ObjOk P w H' h' a o:=by
 induction o with
 |lst xs=>obtain ⟨z,its,n,r,e⟩:=x;exact⟨z,its,n,r,k _ _ (.inl rfl) e⟩
 |tup xs=>obtain ⟨z,its,r,⟨ob,e,c⟩,nd⟩:=x;exact⟨z,its,r,⟨ob,k _ _ (.inl rfl) e,c⟩,λo q=>by rw[k _ _ (.inl rfl) e] at q;cases q;exact nd _ e⟩
 |dK kvs=>obtain ⟨z,y,vs,r,ob,es,ep,e,c⟩:=x;exact⟨z,y,vs,r,ob,es,ep,k _ _ (.inl rfl) e,c⟩
 |dT kvs=>
  obtain⟨z,y,xs,r,ob,es,ep,e,c⟩:=x
  exact⟨z,y,xs,Paired.mapP r λp q z=>⟨z.1,ht _ _ z.2.1,z.2.2⟩,ob,es,ep,k _ _ (.inl rfl) e,c⟩
 |set S n=>obtain ⟨ob,es,ep,t,e,c⟩:=x;exact⟨ob,es,ep,t,k _ _ (.inl rfl) e,c⟩
 |ins C dx fs=>
  obtain⟨d,z,ne,e,mA,⟨od,es,ep,e2,c⟩,r⟩:=x
  exact⟨ho _ d,z,ne,k _ _ (.inl rfl) e,mA,⟨od,es,ep,k _ _ (.inr d) e2,c⟩,r⟩
 |own y=>obtain ⟨ob,e⟩:=x;exact⟨ob,k _ _ (.inl rfl) e⟩
 |xd fs=>obtain ⟨mA,⟨od,es,ep,e,c⟩,r⟩:=x;exact⟨mA,⟨od,es,ep,k _ _ (.inl rfl) e,c⟩,r⟩
 |rng lo hi=>obtain ⟨t,u,v,e⟩:=x;exact⟨t,u,v,k _ _ (.inl rfl) e⟩
 |frz ob u ih=>obtain ⟨e,q⟩:=x;exact⟨k _ _ (.inl rfl) e,ih q⟩
 |tbl ps=>
  have e:h.get? a=some {cls:= .none,data:= .fields ps}:=x
  show h'.get? a=some {cls:= .none,data:= .fields ps}
  exact k a _ (.inl rfl) e
 |met f y=>
  have e:h.get? a=some (PySem.W.methodObj (.ref f) (.ref y)):=x
  show h'.get? a=some (PySem.W.methodObj (.ref f) (.ref y))
  exact k a _ (.inl rfl) e
 |ext φ=>obtain ⟨p,⟨o,e⟩,st⟩:=x;exact⟨st _ _ p λo q=>k _ _ (.inl rfl) q,⟨o,k _ _ (.inl rfl) e⟩,st⟩
theorem HOk.lt(x:HOk P w H h)(e:H a=some o):a<h.objs.size:=(x a o e).lt
theorem HOk.fresh(x:HOk P w H h)(e:h.objs.size<=a):H a=none:=by
 cases q:H a with
 |none=>rfl
 |some u=>exact absurd (Nat.lt_of_lt_of_le (x.lt q) e) (Nat.lt_irrefl _)
theorem HOk.kept(x:HOk P w H h)(k:∀b u,h.get? b=some u->h'.get? b=some u):HOk P w H h':=λa o e=>
 (x a o e).stay (λb u _ q=>k b u q) (λ_ q=>q) λ_ _ q=>q
theorem HOk.laid(x:HOk P w H h)(k:∀b u,h.get? b=some u->h'.get? b=some u)(hp:h.objs.size<=a)(new:ObjOk P w (upd H a o) h' a o):HOk P w (upd H a o) h':=λb u e=>by
 have hn:=x.fresh hp
 by_cases hb:b=a
 ·subst hb;rw[zb] at e;cases e;exact new
 ·rw[zh hb] at e
  exact(x b u e).stay (λc v _ q=>k c v q) (λc q=>by rw[zh (ze q hn)];exact q) λc xs q=>by rw[zh (ze q hn)];exact q
end
def Rd(H:Hp)(a:Addr)(u:HO):Prop:=H a=some u\/∃o,H a=some (.frz o u)
theorem Rd.ok{P:Program}{w:World}{H:Hp}{h:Heap}{a:Addr}{u:HO}(r:Rd H a u)(x:HOk P w H h):ObjOk P w H h a u:=by
 rcases r with r|⟨o,r⟩
 ·exact x a u r
 ·obtain ⟨_,q⟩:=x a _ r
  exact q
def Mut:Option HO->Prop
 |some (.lst _)=>True
 |some (.dK _)=>True
 |some (.dT _)=>True
 |some (.set _ _)=>True
 |some (.ins _ _ _)=>True
 |some (.ext _)=>True
 |_=>False
section
variable{P:Program}{w:World}{H:Hp}{h h':Heap}{x e:Addr}{o':HO}
theorem HOk.write(ok:HOk P w H h)(mu:Mut (H x))(he:e=x\/H e=some (.own x))(k:∀b u,b≠e->h.get? b=some u->h'.get? b=some u)(heo:∃u,h'.get? e=some u)
 (new:ObjOk P w (upd H x o') h' x o'):HOk P w (upd H x o') h':=λb u q=>by
 have nown:∀c y,H c=some (.own y)->c≠x:=λc y r z=>by subst z;rw[r] at mu;exact mu
 have ntup:∀c xs,H c=some (.tup xs)->c≠x:=λc xs r z=>by subst z;rw[r] at mu;exact mu
 by_cases hb:b=x
 ·subst hb;rw[zb] at q;cases q;exact new
 ·rw[zh hb] at q
  by_cases hbe:b=e
  ·have q':H b=some (.own x):=by
    rcases he with z|z
    ·exact absurd (hbe.trans z) hb
    ·rw[hbe];exact z
   rw[q] at q';cases q'
   obtain⟨v,hv⟩:=heo
   exact⟨v,by rw[hbe];exact hv⟩
  ·refine (ok b u q).stay (λc v hc r=>k c v ?_ r) (λc r=>by rw[zh (nown c b r)];exact r) λc xs r=>by rw[zh (ntup c xs r)];exact r
   rcases hc with rfl|hc
   ·exact hbe
   ·rintro rfl
    rcases he with z|z
    ·exact nown c b hc z
    ·rw[hc] at z;cases z;exact hb rfl
end
structure Un(fs ex:List Addr)(H H':Hp)(h h':Heap):Prop where
 keep:∀b o,h.get? b=some o->H b=none->b∉fs->b∉ex->h'.get? b=some o
 slot:∀b o,h.get? b=some o->H b=none->b∈fs->b∉ex->∃sl,h'.get? b=some {o with slots:=sl}
 free:∀b o,h.get? b=some o->H b=none->b∉ex->H' b=none
 there:∀b o,h.get? b=some o->b∉ex->∃o',h'.get? b=some o'
 tups:∀b xs,H b=some (.tup xs)->H' b=some (.tup xs)
 frzs:∀b o u,H b=some (.frz o u)->H' b=some (.frz o u)
 tbls:∀b ps,H b=some (.tbl ps)->∃more,H' b=some (.tbl (ps ++more))
section
variable{fs fs' ex ex':List Addr}{H H1 H2:Hp}{h h1 h2 h':Heap}{a x e:Addr}{o:HO}
theorem Un.any(u:Un fs ex H H1 h h1){b:Addr}{ob:Obj}(q:h.get? b=some ob)(n:H b=none)(hx:b∉ex):∃sl,h1.get? b=some {ob with slots:=sl}:=by
 by_cases hb:b∈fs
 ·exact u.slot b ob q n hb hx
 ·exact ⟨ob.slots,u.keep b ob q n hb hx⟩
theorem Un.kept(k:∀b u,h.get? b=some u->h'.get? b=some u):Un fs ex H H h h':=
 ⟨λb ob q _ _ _=>k b ob q,λb ob q _ _ _=>⟨ob.slots,k b ob q⟩,λ_ _ _ n _=>n,λb ob q _=>⟨ob,k b ob q⟩,λ_ _ q=>q,λ_ _ _ q=>q,λ_ ps q=>⟨#[],by rw[q];simp⟩⟩
theorem Un.refl:Un fs ex H H h h:=Un.kept λ_ _ q=>q
theorem Un.laid(k:∀b u,h.get? b=some u->h'.get? b=some u)(hp:h.objs.size<=a)(hn:H a=none):Un fs ex H (upd H a o) h h' where
 keep:=λb u q _ _ _=>k b u q
 slot:=λb u q _ _ _=>⟨u.slots,k b u q⟩
 free:=λb u q n _=>by rw[zh (Nat.ne_of_lt (Nat.lt_of_lt_of_le (Heap.lt_size q) hp))];exact n
 there:=λb u q _=>⟨u,k b u q⟩
 tups:=λb xs q=>by rw[zh (ze q hn)];exact q
 frzs:=λb u xs q=>by rw[zh (ze q hn)];exact q
 tbls:=λb ps q=>⟨#[],by rw[zh (ze q hn),q];simp⟩
theorem Un.write(mu:Mut (H x))(he:e=x\/H e=some (.own x))(k:∀b u,b≠e->h.get? b=some u->h'.get? b=some u)(heo:∃u,h'.get? e=some u):Un fs ex H (upd H x o) h h':=by
 have hx:∀b,H b=none->b≠x:=λb n z=>by subst z;rw[n] at mu;exact mu
 have hb:∀b,H b=none->b≠e:=λb n z=>by
  subst z
  rcases he with r|r
  ·exact hx b n r
  ·rw[n] at r;cases r
 have hm:∀b u,H b=some u->¬Mut (some u)->b≠x:=λb u q nm z=>by subst z;rw[q] at mu;exact nm mu
 refine⟨λb u q n _ _=>k b u (hb b n) q,λb u q n _ _=>⟨u.slots,k b u (hb b n) q⟩,λb u q n _=>by rw[zh (hx b n)];exact n,λb u q _=>?_,
  λb xs q=>by rw[zh (hm b _ q λz=>z)];exact q,λb u xs q=>by rw[zh (hm b _ q λz=>z)];exact q,λb ps q=>⟨#[],by rw[zh (hm b _ q λz=>z),q];simp⟩⟩
 by_cases hbe:b=e
 ·subst hbe;exact heo
 ·exact ⟨u,k b u hbe q⟩
end
noncomputable def trk(h:Heap)(H:Hp):List Addr:=(List.range h.objs.size).filter λa=>(H a).isSome
noncomputable def zhj(h:Heap)(H:Hp):Heap:=PySem.W.hideAll h (trk h H)
theorem zlk(h:Heap)(H:Hp):(zhj h H).objs.size=h.objs.size:=PySem.W.hideAll_size _ _
theorem zlw{h:Heap}{H:Hp}{b:Addr}{o:Obj}(e:h.get? b=some o)(n:H b=none):(zhj h H).get? b=some o:=
 PySem.W.hideAll_get _ e λhm=>by
  have q:(H b).isSome=true:=(List.mem_filter.mp hm).2
  rw[n] at q;simp at q
theorem zn0{h:Heap}{H:Hp}{b:Addr}{o:Obj}(e:(zhj h H).get? b=some o):h.get? b=some o/\H b=none:=by
 have e':h.get? b=some o:=PySem.W.of_hideAll (trk h H) e
 refine⟨e',?_⟩
 cases q:H b with
 |none=>rfl
 |some x=>
  have hm:b∈trk h H:=List.mem_filter.mpr ⟨List.mem_range.mpr (Heap.lt_size e'),by simp[q]⟩
  have z:(zhj h H).get? b=none:=PySem.W.hideAll_none (trk h H) hm
  rw[z] at e;cases e
structure Mod(K:PySem.W.Frag)(mg:Str->Option Value)(base:Heap):Prop where
 kin:K.In base
 glob:base.Ns mainGlobals mg
 blt:∃mb,base.Ns builtinsNs mb/\∀x:Str,x≠"__name__"->mb x=bootBuiltins x
 nolimit:base.NoLimit
structure Cx where
 prog:Program
 w:World
 K:PySem.W.Frag
 mg:Str->Option Value
 base:Heap
 A:Around
 N:List Str
 s₀:Shared
 H₀:Hp
 env:Env
 outer:List Env
 stack:List Env
 ex:List Addr
 fn:Str->Bool
 calm:Bool
 pn:List (Addr×Obj)
 xe:Value->Shared->Prop
noncomputable def frs(l:List Env):List Addr:=l.filterMap (·.frame)
noncomputable abbrev Cx.fs(X:Cx):List Addr:=frs X.outer
def Vis(sc:Scope)(x:Str):Prop:=sc.names.lookup x=some .local\/sc.names.lookup x=some .cell\/sc.names.lookup x=some .free
def Loc(sc:Scope)(x:Str):Prop:=sc.names.lookup x=some .local\/sc.names.lookup x=some .cell
def zq1(env:Env)(h:Heap)(m:Str->Option Value)(x:Str)(u:Value):Prop:=
 (env.kindOf x=some .local/\m x=some u)\/((env.kindOf x=some .cell\/env.kindOf x=some .free)/\∃c,env.cells.lookup x=some c/\h.IsCell c (some u))
structure Cx.Ok(X:Cx):Prop where
 mod:Mod X.K X.mg X.base
 kind:X.env.scope.kind= .function
 glob:X.env.globals=mainGlobals
 blt:X.env.builtins=builtinsNs
 above:X.s₀.heap.objs.size<=X.env.locals
 inj:∀x y c,X.env.cells.lookup x=some c->X.env.cells.lookup y=some c->x=y
 has:∀x,(X.env.kindOf x=some .cell\/X.env.kindOf x=some .free)->∃c,X.env.cells.lookup x=some c
 cab:∀x c,X.fn x=true->X.env.cells.lookup x=some c->X.s₀.heap.objs.size<=c
 hd:X.calm=true->X.A.handled=none
 frames:X.A.frames=some X.stack
 stk:X.stack=X.outer\/(X.stack=X.env::X.outer/\X.env.frame=some X.env.locals)
 exf:∀b∈X.ex,b≠X.env.locals/\∀x c,X.env.cells.lookup x=some c->c≠b
 bs:∀b o,X.base.get? b=some o->X.s₀.heap.get? b=some o/\X.H₀ b=none
 bsz:X.base.objs.size<=X.s₀.heap.objs.size
 noex:∀b o,X.base.get? b=some o->b∉X.ex
 exfs:∀b∈X.ex,b∉X.fs
 funs:X.s₀.heap.FunFrames X.base X.outer
 frf:∀b∈X.fs,X.H₀ b=none
structure Inv(X:Cx)(pins:List (Addr×Obj))(σ:List (Option V))(H:Hp)(s:Shared):Prop where
 ok:X.Ok
 os:s.os=X.s₀.os
 bare:AllBare s.gens
 base:Un X.fs X.ex X.H₀ H X.s₀.heap s.heap
 loc:∃m,s.heap.Ns X.env.locals m/\∀(i:Nat) (x:Str) (v:V),X.N[i]?=some x->σ[i]?=some (some v)->Vis X.env.scope x->∃u,RelV v u/\zq1 X.env s.heap m x u
 cell:∀x c,X.env.cells.lookup x=some c->∃v,s.heap.IsCell c v
 free:H X.env.locals=none
 freeC:∀x c,X.env.cells.lookup x=some c->H c=none
 pin:∀p∈X.pn ++pins,s.heap.get? p.1=some p.2/\H p.1=none/\p.1≠X.env.locals/\p.1∉X.fs/\∀v,p.2.data≠ .cell v
 hok:HOk X.prog X.w H s.heap
 len:σ.length=X.N.length
section
variable{X:Cx}{pins:List (Addr×Obj)}{σ:List (Option V)}{H H':Hp}{s:Shared}{h':Heap}
theorem Cx.Ok.nofr(ok:X.Ok){b:Addr}{o:Obj}(e:X.base.get? b=some o):b∉X.fs:=λhb=>by
 have:=(ok.funs.mem hb).1
 rw[e] at this;cases this
theorem Inv.bs(I:Inv X pins σ H s):∀b o,X.base.get? b=some o->s.heap.get? b=some o/\H b=none:=λb o e=>
 ⟨I.base.keep b o (I.ok.bs b o e).1 (I.ok.bs b o e).2 (I.ok.nofr e) (I.ok.noex b o e),I.base.free b o (I.ok.bs b o e).1 (I.ok.bs b o e).2 (I.ok.noex b o e)⟩
theorem Inv.bk(I:Inv X pins σ H s):∀b o,X.base.get? b=some o->s.heap.get? b=some o:=λb o e=>(I.bs b o e).1
theorem Inv.mod(I:Inv X pins σ H s):Mod X.K X.mg X.base:=I.ok.mod
theorem Inv.kIn(I:Inv X pins σ H s):X.K.In s.heap:=I.ok.mod.kin.keeps I.bk
theorem Inv.lt(I:Inv X pins σ H s):X.env.locals<s.heap.objs.size:=let⟨_,hn,_⟩:=I.loc;hn.lt
theorem Inv.sz(I:Inv X pins σ H s):X.s₀.heap.objs.size<=s.heap.objs.size:=Nat.le_trans I.ok.above (Nat.le_of_lt I.lt)
theorem Inv.nofs(I:Inv X pins σ H s){a:Addr}(h:s.heap.objs.size<=a):a∉X.fs:=λhb=>by
 obtain⟨_,o,ho,_⟩:=I.ok.funs.mem hb
 exact absurd (Nat.lt_of_lt_of_le (Heap.lt_size ho) (Nat.le_trans I.sz h)) (Nat.lt_irrefl _)
theorem Inv.cne(I:Inv X pins σ H s):∀x c,X.env.cells.lookup x=some c->c≠X.env.locals:=λx c e z=>by
 obtain⟨v,o,ho,hd⟩:=I.cell x c e
 obtain⟨m,⟨o',es,ep,ho',hd',_⟩,_⟩:=I.loc
 rw[z,ho'] at ho;cases ho;rw[hd'] at hd;cases hd
theorem Inv.funs(I:Inv X pins σ H s):s.heap.FunFrames X.base X.outer:=by
 have all:∀(l:List Env),(∀b∈frs l,b∈X.fs)->X.s₀.heap.FunFrames X.base l->s.heap.FunFrames X.base l:=by
  intro l
  induction l with
  |nil=>intro _ _;trivial
  |cons env r ih=>
   intro hs hl
   obtain⟨hk,⟨L,o,hf,hn,ho,hd⟩,hr⟩:=hl
   have hL:L∈X.fs:=hs L (by unfold frs;rw[List.filterMap_cons,hf];exact List.mem_cons_self)
   obtain⟨sl,e⟩:=I.base.slot L o ho (I.ok.frf L hL) hL λz=>I.ok.exfs L z hL
   exact⟨hk,⟨L,_,hf,hn,e,hd⟩,ih (λb hb=>hs b (by unfold frs;rw[List.filterMap_cons,hf];exact List.mem_cons_of_mem _ hb)) hr⟩
 exact all X.outer (λ_ hb=>hb) I.ok.funs
theorem Inv.stack(I:Inv X pins σ H s):s.heap.FunFrames X.base X.stack:=by
 rcases I.ok.stk with e|⟨e,hf⟩
 ·rw[e];exact I.funs
 ·rw[e]
  obtain⟨m,hn,_⟩:=I.loc
  refine .cons (by rw[I.ok.kind];decide) hf hn ?_ I.funs
  exact Heap.get?_none_of_le (Nat.le_trans I.ok.bsz I.ok.above)
theorem Inv.stkSub(I:Inv X pins σ H s):∀b∈frs X.stack,b∈X.env.locals::X.fs:=λb hb=>by
 rcases I.ok.stk with e|⟨e,hf⟩
 ·rw[e] at hb;exact List.mem_cons_of_mem _ hb
 ·rw[e] at hb
  unfold frs at hb
  rw[List.filterMap_cons,hf] at hb
  exact hb
theorem Inv.stkFree(I:Inv X pins σ H s):∀b∈frs X.stack,H b=none:=λb hb=>by
 rcases List.mem_cons.mp (I.stkSub b hb)with e|hb
 ·rw[e];exact I.free
 ·obtain ⟨_,o,ho,_⟩:=I.ok.funs.mem hb
  exact I.base.free b o ho (I.ok.frf b hb) λz=>I.ok.exfs b z hb
theorem Inv.step{g':Array GenState}{t':Nat}{d':Drawn}{ch:List Addr}(I:Inv X pins σ H s)
 (hch:∀b∈ch,(b∈X.ex\/X.s₀.heap.objs.size<=b)/\b≠X.env.locals/\(∀x c,X.env.cells.lookup x=some c->c≠b)/\∀p∈X.pn ++pins,p.1≠b)
 (keep:∀b o,b≠X.env.locals->b∉X.fs->b∉ch->s.heap.get? b=some o->H b=none->h'.get? b=some o)
 (slot:∀b o,b≠X.env.locals->b∈X.fs->b∉ch->s.heap.get? b=some o->H b=none->∃sl,h'.get? b=some {o with slots:=sl}) (free:∀b o,b∉ch->s.heap.get? b=some o->H b=none->H' b=none)
 (there:∀b o,b∉ch->s.heap.get? b=some o->∃o',h'.get? b=some o')
 (tups:∀b xs,H b=some (.tup xs)->H' b=some (.tup xs)) (frzs:∀b o u,H b=some (.frz o u)->H' b=some (.frz o u)) (tbls:∀b ps,H b=some (.tbl ps)->∃more,H' b=some (.tbl (ps ++more)))
 (ns:∀m,s.heap.Ns X.env.locals m->h'.Ns X.env.locals m) (hok:HOk X.prog X.w H' h') (hg:AllBare g'):
 Inv X pins σ H' {s with heap:=h',gens:=g',drawn:=d',toks:=t'}:=by
 have neL:∀b o,X.s₀.heap.get? b=some o->b≠X.env.locals:=λb o e=>Nat.ne_of_lt (Nat.lt_of_lt_of_le (Heap.lt_size e) I.ok.above)
 have neC:∀b o,X.s₀.heap.get? b=some o->b∉X.ex->b∉ch:=λb o e hx hb=>by
  rcases(hch b hb).1 with z|z
  ·exact hx z
  ·exact absurd (Nat.lt_of_lt_of_le (Heap.lt_size e) z) (Nat.lt_irrefl _)
 have cellK:∀x c,X.env.cells.lookup x=some c->∀v,s.heap.IsCell c v->h'.IsCell c v:=λx c e v ⟨o,ho,hd⟩=>by
  have nch:c∉ch:=λz=>(hch c z).2.2.1 x c e rfl
  by_cases hc:c∈X.fs
  ·obtain ⟨sl,q⟩:=slot c o (I.cne x c e) hc nch ho (I.freeC x c e)
   exact⟨_,q,hd⟩
  ·exact ⟨o,keep c o (I.cne x c e) hc nch ho (I.freeC x c e),hd⟩
 refine⟨I.ok,I.os,hg,⟨λb o e n hb hx=>?_,λb o e n hb hx=>?_,λb o e n hx=>?_,λb o e hx=>?_,λb xs e=>tups b xs (I.base.tups b xs e),λb o xs e=>frzs b o xs (I.base.frzs b o xs e),λb ps e=>?_⟩,?_,λx c e=>?_,?_,λx c e=>?_,λp hp=>?_,hok,I.len⟩
 ·exact keep b o (neL b o e) hb (neC b o e hx) (I.base.keep b o e n hb hx) (I.base.free b o e n hx)
 ·obtain ⟨sl,e1⟩:=I.base.slot b o e n hb hx
  obtain⟨sl',e2⟩:=slot b _ (neL b o e) hb (neC b o e hx) e1 (I.base.free b o e n hx)
  exact⟨sl',e2⟩
 ·obtain ⟨o',e1⟩:=I.base.there b o e hx
  exact free b o' (neC b o e hx) e1 (I.base.free b o e n hx)
 ·obtain ⟨o',e1⟩:=I.base.there b o e hx
  exact there b o' (neC b o e hx) e1
 ·obtain ⟨m1,e1⟩:=I.base.tbls b ps e
  obtain⟨m2,e2⟩:=tbls b _ e1
  exact⟨m1 ++m2,by rw[e2,Array.append_assoc]⟩
 ·obtain ⟨m,hn,hl⟩:=I.loc
  refine⟨m,ns m hn,λi x v e1 e2 e3=>?_⟩
  obtain⟨u,r,l⟩:=hl i x v e1 e2 e3
  refine⟨u,r,?_⟩
  rcases l with l|⟨k,c,e,z⟩
  ·exact .inl l
  ·exact .inr ⟨k,c,e,cellK x c e _ z⟩
 ·obtain ⟨v,z⟩:=I.cell x c e
  exact⟨v,cellK x c e v z⟩
 ·obtain ⟨m,⟨o,_,_,ho,_⟩,_⟩:=I.loc
  exact free _ o (λz=>(hch _ z).2.1 rfl) ho I.free
 ·obtain ⟨v,o,ho,hd⟩:=I.cell x c e
  exact free c o (λz=>(hch c z).2.2.1 x c e rfl) ho (I.freeC x c e)
 ·obtain ⟨e,n,ne,nf,d⟩:=I.pin p hp
  have nch:p.1∉ch:=λz=>(hch p.1 z).2.2.2 p hp rfl
  exact⟨keep p.1 p.2 ne nf nch e n,free p.1 p.2 nch e n,ne,nf,d⟩
theorem Inv.un{t':Nat}(I:Inv X pins σ H s)(u:Un X.fs [] H H' s.heap h')(hok:HOk X.prog X.w H' h'):Inv X pins σ H' {s with heap:=h',toks:=t'}:=by
 obtain⟨m,⟨o,es,ep,ho,r⟩,_⟩:=id I.loc
 obtain⟨sl,hL⟩:=u.any ho I.free (by simp)
 exact I.step (g':=s.gens) (d':=s.drawn) (ch:=[]) (λ_ z=>nomatch z) (λb o _ hb _ e n=>u.keep b o e n hb (by simp)) (λb o _ hb _ e n=>u.slot b o e n hb (by simp)) (λb o _ e n=>u.free b o e n (by simp)) (λb o _ e=>u.there b o e (by simp)) u.tups u.frzs u.tbls (λm' hm=>by
  obtain⟨o',es',ep',ho',r'⟩:=hm
  rw[ho] at ho';cases ho'
  exact⟨_,es',ep',hL,r'⟩) hok I.bare
theorem Inv.call{g':Array GenState}{t':Nat}{d':Drawn}{ch:List Addr}(I:Inv X pins σ H s)(u:Un (frs X.stack) ch H H' s.heap h')(hok:HOk X.prog X.w H' h')(hg:AllBare g')
 (hch:∀b∈ch,(b∈X.ex\/X.s₀.heap.objs.size<=b)/\b≠X.env.locals/\(∀x c,X.env.cells.lookup x=some c->c≠b)/\∀p∈X.pn ++pins,p.1≠b):
 Inv X pins σ H' {s with heap:=h',gens:=g',drawn:=d',toks:=t'}:=by
 obtain⟨m,⟨o,es,ep,ho,r⟩,_⟩:=id I.loc
 obtain⟨sl,hL⟩:=u.any ho I.free λz=>(hch _ z).2.1 rfl
 exact I.step (ch:=ch) hch (λb o hL hb hc e n=>u.keep b o e n (λz=>(List.mem_cons.mp (I.stkSub b z)).elim hL hb) hc) (λb o _ _ hc e n=>u.any e n hc) (λb o hc e n=>u.free b o e n hc) (λb o hc e=>u.there b o e hc) u.tups u.frzs u.tbls (λm' hm=>by
  obtain⟨o',es',ep',ho',r'⟩:=hm
  rw[ho] at ho';cases ho'
  exact⟨_,es',ep',hL,r'⟩) hok hg
theorem Inv.turned{t':Nat}{it:Addr}(I:Inv X pins σ H s)(k:∀b o,b≠it->s.heap.get? b=some o->h'.get? b=some o)(hn:H it=none)(hL:it≠X.env.locals)
 (h1:it∈X.ex\/X.s₀.heap.objs.size<=it) (h2:∀x c,X.env.cells.lookup x=some c->c≠it) (h3:∀p∈X.pn ++pins,p.1≠it):Inv X pins σ H {s with heap:=h',toks:=t'}:=by
 have nit:∀b u,H b=some u->b≠it:=λb u e z=>by rw[z,hn] at e;cases e
 refine I.step (g':=s.gens) (d':=s.drawn) (ch:=[it]) (λb hb=>?_) (λb o _ _ hc e _=>k b o (λz=>hc (by simp[z])) e) (λb o _ _ hc e _=>⟨o.slots,k b o (λz=>hc (by simp[z])) e⟩) (λ_ _ _ _ n=>n)
  (λb o hc e=>⟨o,k b o (λz=>hc (by simp[z])) e⟩) (λ_ _ e=>e) (λ_ _ _ e=>e) (λb ps e=>⟨#[],by rw[e];simp⟩) (λm hm=>?_) (λb u e=>?_) I.bare
 ·have e:b=it:=by simpa using hb
  subst e
  exact⟨h1,hL,h2,h3⟩
 ·obtain ⟨o,es,ep,ho,r⟩:=hm
  exact⟨o,es,ep,k _ o (Ne.symm hL) ho,r⟩
 ·refine (I.hok b u e).stay (λc v hc q=>k c v ?_ q) (λ_ q=>q) λ_ _ q=>q
  rcases hc with z|z
  ·rw[z];exact nit b u e
  ·exact nit c _ z
theorem Inv.tok(I:Inv X pins σ H s)(t:Nat):Inv X pins σ H {s with toks:=t}:=I.un (h':=s.heap) (t':=t) Un.refl I.hok
theorem Inv.kept{t':Nat}(I:Inv X pins σ H s)(k:∀b u,s.heap.get? b=some u->h'.get? b=some u):Inv X pins σ H {s with heap:=h',toks:=t'}:=I.un (Un.kept k) (I.hok.kept k)
theorem Inv.laid{a:Addr}{o:HO}{t':Nat}(I:Inv X pins σ H s)(k:∀b u,s.heap.get? b=some u->h'.get? b=some u)(hp:s.heap.objs.size<=a)(new:ObjOk X.prog X.w (upd H a o) h' a o):
 Inv X pins σ (upd H a o) {s with heap:=h',toks:=t'}:=I.un (Un.laid k hp (I.hok.fresh hp)) (I.hok.laid k hp new)
theorem Inv.write{x e:Addr}{o:HO}{t':Nat}(I:Inv X pins σ H s)(mu:Mut (H x))(he:e=x\/H e=some (.own x))(k:∀b u,b≠e->s.heap.get? b=some u->h'.get? b=some u)(heo:∃u,h'.get? e=some u)
 (new:ObjOk X.prog X.w (upd H x o) h' x o):Inv X pins σ (upd H x o) {s with heap:=h',toks:=t'}:=I.un (Un.write mu he k heo) (I.hok.write mu he k heo new)
theorem Inv.pins_of{pins':List (Addr×Obj)}(I:Inv X pins σ H s)(h:∀p∈pins',s.heap.get? p.1=some p.2/\H p.1=none/\p.1≠X.env.locals/\p.1∉X.fs/\∀v,p.2.data≠ .cell v):Inv X pins' σ H s:=
 ⟨I.ok,I.os,I.bare,I.base,I.loc,I.cell,I.free,I.freeC,λp hp=>(List.mem_append.mp hp).elim (λz=>I.pin p (List.mem_append_left _ z)) (h p),I.hok,I.len⟩
theorem zhP{N:List Str}(hN:N.Nodup){i j:Nat}{x:Str}(a:N[i]?=some x)(b:N[j]?=some x):i=j:=by
 obtain⟨h1,e1⟩:=List.getElem?_eq_some_iff.mp a
 obtain⟨h2,e2⟩:=List.getElem?_eq_some_iff.mp b
 exact(List.getElem_inj hN).mp (e1.trans e2.symm)
theorem zkN{M:Model}{A:Around}{E:Value->Shared->Prop}{i:Nat}{x:Str}{v:V}{u:Value}{Q:Unit->Shared->Prop}(I:Inv X pins σ H s)(hN:X.N.Nodup)(hi:X.N[i]?=some x)(hx:Loc X.env.scope x)(r:RelV v u)
 (h:∀s',Inv X pins (σ.set i (some v)) H s'->(∃a,Heap.SameBut a s.heap s'.heap/\(a=X.env.locals\/X.env.cells.lookup x=some a))->Q () s') (hf:X.fn x=true\/X.env.scope.names.lookup x=some .local:=by first|exact .inl rfl|exact .inr rfl|assumption):wpAny M A (storeName X.env x u) Q E s:=by
 obtain⟨m,hn,hl⟩:=id I.loc
 have hcls:(X.env.scope.kind== .class||(X.env.scope.kind== .module&&X.env.locals !=X.env.globals))=false:=by rw[I.ok.kind];rfl
 have hiσ:i<σ.length:=by rw[I.len];exact(List.getElem?_eq_some_iff.mp hi).1
 have cne:=I.cne
 have tracked:∀{a:Addr} {h':Heap},(∃o,s.heap.get? a=some o/\H a=none)->Heap.SameBut a s.heap h'->HOk X.prog X.w H h':=λ{a h'} ha hs b ob e=>by
  obtain⟨_,_,hfree⟩:=ha
  refine(I.hok b ob e).stay (λc w' hc q=>(hs.2 c ?_).trans q) (λ_ q=>q) λ_ _ q=>q
  rintro rfl
  rcases hc with rfl|hc
  ·rw[hfree] at e;cases e
  ·rw[hfree] at hc;cases hc
 rcases hx with hk|hk
 ·refine wpAny_storeName_local hk hn (λh' hn' hs=>?_) hcls
  obtain⟨oL,_,_,hoL,_⟩:=id hn
  refine h _ ⟨I.ok,I.os,I.bare,⟨λb o e n hb hx=>?_,λb o e n hb hx=>?_,I.base.free,λb o e hx=>?_,I.base.tups,I.base.frzs,I.base.tbls⟩,⟨_,hn',λj y v' e1 e2 e3=>?_⟩,λy c e=>?_,I.free,I.freeC,λp hp=>?_,tracked ⟨oL,hoL,I.free⟩ hs,by simpa using I.len⟩ ⟨_,hs, .inl rfl⟩
  ·exact (hs.2 b (Nat.ne_of_lt (Nat.lt_of_lt_of_le (Heap.lt_size e) I.ok.above))).trans (I.base.keep b o e n hb hx)
  ·obtain ⟨sl,e1⟩:=I.base.slot b o e n hb hx
   exact⟨sl,(hs.2 b (Nat.ne_of_lt (Nat.lt_of_lt_of_le (Heap.lt_size e) I.ok.above))).trans e1⟩
  ·obtain ⟨o',e1⟩:=I.base.there b o e hx
   exact⟨o',(hs.2 b (Nat.ne_of_lt (Nat.lt_of_lt_of_le (Heap.lt_size e) I.ok.above))).trans e1⟩
  ·by_cases hj:j=i
   ·subst hj
    rw[hi] at e1;cases e1
    rw[List.getElem?_set_self hiσ] at e2
    cases e2
    exact⟨u,r, .inl ⟨hk,by simp⟩⟩
   ·rw[List.getElem?_set_ne (Ne.symm hj)] at e2
    obtain⟨u',r',q⟩:=hl j y v' e1 e2 e3
    refine⟨u',r',?_⟩
    rcases q with⟨k,e⟩|⟨k,c,e,z⟩
    ·refine .inl ⟨k,?_⟩
     have:y≠x:=λe=>hj (zhP hN e1 (e▸hi))
     simp[this,e]
    ·exact .inr ⟨k,c,e,z.sameBut hs (cne y c e)⟩
  ·obtain ⟨w',z⟩:=I.cell y c e
   exact⟨w',z.sameBut hs (cne y c e)⟩
  ·obtain ⟨e,n,ne,nf,d⟩:=I.pin p hp
   exact⟨(hs.2 p.1 ne).trans e,n,ne,nf,d⟩
 ·have hfn:X.fn x=true:=by
   rcases hf with z|z
   ·exact z
   ·rw[z] at hk;cases hk
  obtain⟨c,hc⟩:=I.ok.has x (.inl hk)
  obtain⟨w',z⟩:=I.cell x c hc
  refine wpAny_storeName_cell I.ok.kind hk hc z (λh' hc' hs=>?_)
  obtain⟨oc,hoc,hocd⟩:=id z
  refine h {s with heap:=h'} ⟨I.ok,I.os,I.bare,⟨λb o e n hb hx=>?_,λb o e n hb hx=>?_,I.base.free,λb o e hx=>?_,I.base.tups,I.base.frzs,I.base.tbls⟩,⟨m,hn.sameBut hs (Ne.symm (cne x c hc)),λj y v' e1 e2 e3=>?_⟩,λy c' e=>?_,I.free,I.freeC,λp hp=>?_,tracked ⟨oc,hoc,I.freeC x c hc⟩ hs,by simpa using I.len⟩ ⟨c,hs, .inr hc⟩
  ·exact (hs.2 b (Nat.ne_of_lt (Nat.lt_of_lt_of_le (Heap.lt_size e) (I.ok.cab x c hfn hc)))).trans (I.base.keep b o e n hb hx)
  ·obtain ⟨sl,e1⟩:=I.base.slot b o e n hb hx
   exact⟨sl,(hs.2 b (Nat.ne_of_lt (Nat.lt_of_lt_of_le (Heap.lt_size e) (I.ok.cab x c hfn hc)))).trans e1⟩
  ·obtain ⟨o',e1⟩:=I.base.there b o e hx
   exact⟨o',(hs.2 b (Nat.ne_of_lt (Nat.lt_of_lt_of_le (Heap.lt_size e) (I.ok.cab x c hfn hc)))).trans e1⟩
  ·by_cases hj:j=i
   ·subst hj
    rw[hi] at e1;cases e1
    rw[List.getElem?_set_self hiσ] at e2
    cases e2
    exact⟨u,r, .inr ⟨.inl hk,c,hc,hc'⟩⟩
   ·rw[List.getElem?_set_ne (Ne.symm hj)] at e2
    obtain⟨u',r',q⟩:=hl j y v' e1 e2 e3
    refine⟨u',r',?_⟩
    rcases q with q|⟨k,c',e,z'⟩
    ·exact .inl q
    ·refine .inr ⟨k,c',e,z'.sameBut hs ?_⟩
     rintro rfl
     exact hj (zhP hN e1 (I.ok.inj _ _ _ e hc▸hi))
  ·by_cases hcc:c'=c
   ·subst hcc;exact⟨_,hc'⟩
   ·obtain ⟨w2,z2⟩:=I.cell y c' e
    exact⟨w2,z2.sameBut hs hcc⟩
  ·obtain ⟨e,n,ne,nf,d⟩:=I.pin p hp
   refine⟨(hs.2 p.1 ?_).trans e,n,ne,nf,d⟩
   intro q
   rw[q,hoc] at e
   have q':oc=p.2:=Option.some.inj e
   exact d w' (by rw[←q'];exact hocd)
theorem zde{M:Model}{A:Around}{E:Value->Shared->Prop}{i:Nat}{x:Str}{v:V}{u:Value}{Q:Unit->Shared->Prop}(I:Inv X pins σ H s)(hN:X.N.Nodup)(hi:X.N[i]?=some x)(hx:Loc X.env.scope x)(r:RelV v u)
 (h:∀s',Inv X pins (σ.set i (some v)) H s'->Q () s') (hf:X.fn x=true\/X.env.scope.names.lookup x=some .local:=by first|exact .inl rfl|exact .inr rfl|assumption):wpAny M A (storeName X.env x u) Q E s:=
 zkN I hN hi hx r (λs' I' _=>h s' I') hf
theorem Inv.call'{s':Shared}{ch:List Addr}(I:Inv X pins σ H s)(ho:s'.os=s.os)(u:Un (frs X.stack) ch H H' s.heap s'.heap)(hok:HOk X.prog X.w H' s'.heap)(hg:AllBare s'.gens)
 (hch:∀b∈ch,(b∈X.ex\/X.s₀.heap.objs.size<=b)/\b≠X.env.locals/\(∀x c,X.env.cells.lookup x=some c->c≠b)/\∀p∈X.pn ++pins,p.1≠b):Inv X pins σ H' s':=by
 obtain⟨h',g',d',t',o'⟩:=s'
 have e:o'=s.os:=ho
 subst e
 exact I.call (g':=g') (t':=t') (d':=d') u hok hg hch
end
noncomputable abbrev XK:=Value->Option Addr->Hp->Prop
noncomputable abbrev St:=List (Option V)
noncomputable abbrev VK:=V->Hp->Prop
noncomputable abbrev TE:=St->Hp->VK->Prop
noncomputable abbrev TT:=St->Hp->(Bool->Hp->Prop)->Prop
noncomputable abbrev TA:=St->Hp->(List V->Hp->Prop)->Prop
structure Ends where
 nx:St->Hp->Prop
 rt:VK
 bk:St->Hp->Prop:=λ_ _=>False
 ct:St->Hp->Prop:=λ_ _=>False
noncomputable abbrev TS:=Ends->St->Hp->Prop
def EP(X:Cx)(pins:List (Addr×Obj))(σ:St)(Q:VK)(u:Value)(s':Shared):Prop:=∃v H',Inv X pins σ H' s'/\RelV v u/\Q v H'
def TP(X:Cx)(pins:List (Addr×Obj))(σ:St)(Q:Bool->Hp->Prop)(b:Bool)(s':Shared):Prop:=∃H',Inv X pins σ H' s'/\Q b H'
def AP(X:Cx)(pins:List (Addr×Obj))(σ:St)(Q:List V->Hp->Prop)(us:List Value)(s':Shared):Prop:=∃vs H',Inv X pins σ H' s'/\Vals vs us/\Q vs H'
def SP(X:Cx)(pins:List (Addr×Obj))(D:Ends)(f:Flow)(s':Shared):Prop:=
 match f with
 | .next=>∃σ' H',Inv X pins σ' H' s'/\D.nx σ' H'
 | .brk=>∃σ' H',Inv X pins σ' H' s'/\D.bk σ' H'
 | .cont=>∃σ' H',Inv X pins σ' H' s'/\D.ct σ' H'
 | .ret u=>∃v σ' H',Inv X pins σ' H' s'/\RelV v u/\D.rt v H'
def PE(X:Cx)(e:Expr)(t:TE):Prop:=
 ∀(pins:List (Addr×Obj)) (s:Shared) (σ:St) (H:Hp) (Q:VK),Inv X pins σ H s->t σ H Q->wpAny (model X.prog X.w) X.A (eval e X.env) (EP X pins σ Q) X.xe s
def PT(X:Cx)(e:Expr)(t:TT):Prop:=
 ∀(pins:List (Addr×Obj)) (s:Shared) (σ:St) (H:Hp) (Q:Bool->Hp->Prop),Inv X pins σ H s->t σ H Q->wpAny (model X.prog X.w) X.A (isTrue e X.env (eval e X.env)) (TP X pins σ Q) X.xe s
def PW(X:Cx)(e:Expr)(t:TT):Prop:=
 ∀(whole:Sem Value) (pins:List (Addr×Obj)) (s:Shared) (σ:St) (H:Hp) (Q:Bool->Hp->Prop),Inv X pins σ H s->t σ H Q->wpAny (model X.prog X.w) X.A (isTrue e X.env whole) (TP X pins σ Q) X.xe s
theorem PW.pt{X:Cx}{e:Expr}{t:TT}(h:PW X e t):PT X e t:=h _
def PA(X:Cx)(es:List Expr)(t:TA):Prop:=
 ∀(pos:Pos) (pins:List (Addr×Obj)) (s:Shared) (σ:St) (H:Hp) (Q:List V->Hp->Prop),Inv X pins σ H s->t σ H Q->wpAny (model X.prog X.w) X.A (spliced (backTo pos (starEach es X.env))) (AP X pins σ Q) X.xe s
def PS(X:Cx)(st:Stmt)(t:TS):Prop:=
 ∀(pins:List (Addr×Obj)) (s:Shared) (σ:St) (H:Hp) (D:Ends),Inv X pins σ H s->t D σ H->wpAny (model X.prog X.w) X.A (exec st X.env) (SP X pins D) X.xe s
def PSs(X:Cx)(st:List Stmt)(t:TS):Prop:=
 ∀(pins:List (Addr×Obj)) (s:Shared) (σ:St) (H:Hp) (D:Ends),Inv X pins σ H s->t D σ H->wpAny (model X.prog X.w) X.A (execs st X.env) (SP X pins D) X.xe s
theorem thn{α:Type}{t:Sem α}{Q Q':α->Shared->Prop}{M:Model}{A:Around}{E:Value->Shared->Prop}{s:Shared}(h:wpAny M A t Q E s)(hQ:∀a s,Q a s->Q' a s):wpAny M A t Q' E s:=wpAny_mono h hQ λ_ _ x=>x
section
variable{X:Cx}
theorem bin{a b:Expr}{ta tb:TE}(ha:PE X a ta)(hb:PE X b tb){pins:List (Addr×Obj)}{s:Shared}{σ:St}{H:Hp}{R:V->V->Hp->Prop}(I:Inv X pins σ H s)(h:ta σ H λx H1=>tb σ H1 λy H2=>R x y H2)
 {α:Type} {Q:α->Shared->Prop} {f:Value->Value->Sem α}
 (hf:∀v u s2 x y H2,Inv X pins σ H2 s2->RelV x v->RelV y u->R x y H2->wpAny (model X.prog X.w) X.A (f v u) Q X.xe s2):
 wpAny (model X.prog X.w) X.A (eval a X.env) (λv s₁=>wpAny (model X.prog X.w) X.A (eval b X.env) (λu s₂=>wpAny (model X.prog X.w) X.A (f v u) Q X.xe s₂) X.xe s₁) X.xe s:=by
 refine thn (ha pins s σ H _ I h) λv s1 ⟨x,H1,I1,r1,q1⟩=>?_
 refine thn (hb pins s1 σ H1 _ I1 q1) λu s2 ⟨y,H2,I2,r2,q2⟩=>?_
 exact hf v u s2 x y H2 I2 r1 r2 q2
noncomputable def zn4(i:Nat):TE:=λσ H Q=>∃v,σ[i]?=some (some v)/\Q v H
noncomputable def tC(v:V):TE:=λ_ H Q=>Q v H
theorem zlD{i:Nat}{x:Str}{pos:Pos}(hN:X.N[i]?=some x)(hv:Vis X.env.scope x)(hd:(x==("__debug__":Str))=false:=by decide)(hcd:(x==("__classdict__":Str))=false:=by decide):PE X (.Name x pos) (zn4 i):=by
 intro pins s σ H Q I h
 obtain⟨v,e,h⟩:=h
 obtain⟨m,hn,hl⟩:=I.loc
 obtain⟨u,r,l⟩:=hl i x v hN e hv
 have fin:EP X pins σ Q u s:=⟨v,H,I,r,h⟩
 rcases l with⟨hk,hm⟩|⟨hk,c,hc,hcell⟩
 ·exact wpAny_Name (wpAny_loadName_local I.ok.kind hk hn hm fin) hd
 ·rcases hk with hk|hk
  ·exact wpAny_Name (wpAny_loadName_cell I.ok.kind hk hc hcell fin) hd
  ·exact wpAny_Name (wpAny_loadName_free I.ok.kind hk hc hcell fin hcd) hd
theorem zmt{i j pos}:PE X (.Constant (.int i) j pos) (tC (.int i)):=λ_ _ _ H _ I h=>wpAny_Constant_int ⟨.int i,H,I.tok _,⟨_,rfl⟩,h⟩
theorem zo4{b j pos}:PE X (.Constant (.bool b) j pos) (tC (.bl b)):=λ_ _ _ H _ I h=>Constant_bool ⟨.bl b,H,I,rfl,h⟩
theorem zlu{j pos}:PE X (.Constant .none j pos) (tC .non):=λ_ _ _ H _ I h=>Constant_none ⟨.non,H,I,rfl,h⟩
theorem zmA{x j pos}:PE X (.Constant (.str x) j pos) (tC (.str x)):=λ_ _ _ H _ I h=>Calls.Constant_str ⟨.str x,H,I.tok _,⟨_,rfl⟩,h⟩
def Gl(X:Cx)(x:Str):Prop:=X.env.kindOf x=some .globalImplicit
theorem zhv{E:Value->Shared->Prop}{pins:List (Addr×Obj)}{s:Shared}{σ:St}{H:Hp}{x:Str}{u:Value}{pos:Pos}{Q:Value->Shared->Prop}(I:Inv X pins σ H s)(hg:Gl X x)(hm:X.mg x=some u)(h:Q u s)
 (hd:(x==("__debug__":Str))=false:=by decide):wpAny (model X.prog X.w) X.A (eval (.Name x pos) X.env) Q E s:=
 Calls.Name_function_global I.ok.kind hg (Calls.loadGlobal_global (by rw[I.ok.glob];exact I.mod.glob.keeps I.bk) hm h) hd
theorem zfX{E:Value->Shared->Prop}{pins:List (Addr×Obj)}{s:Shared}{σ:St}{H:Hp}{x:Str}{u:Value}{pos:Pos}{Q:Value->Shared->Prop}(I:Inv X pins σ H s)(hg:Gl X x)(hm:X.mg x=none)(hv:bootBuiltins x=some u)(h:Q u s)
 (hn:x≠"__name__":=by decide) (hd:(x==("__debug__":Str))=false:=by decide):wpAny (model X.prog X.w) X.A (eval (.Name x pos) X.env) Q E s:=by
 obtain⟨mb,h1,h2⟩:=I.mod.blt
 exact Calls.Name_function_global I.ok.kind hg (Calls.loadGlobal_builtin (by rw[I.ok.glob];exact I.mod.glob.keeps I.bk) hm (by rw[I.ok.blt];exact h1.keeps I.bk) ((h2 x hn).trans hv) h) hd
theorem znM{x:Str}{v:V}{u:Value}{pos:Pos}(hg:Gl X x)(hm:X.mg x=some u)(r:RelV v u)(hd:(x==("__debug__":Str))=false:=by decide):PE X (.Name x pos) (tC v):=
 λ_ _ _ H _ I h=>zhv I hg hm ⟨v,H,I,r,h⟩ hd
theorem zoi{x:Str}{v:V}{u:Value}{pos:Pos}(hg:Gl X x)(hm:X.mg x=none)(hv:bootBuiltins x=some u)(r:RelV v u)(hn:x≠"__name__":=by decide)(hd:(x==("__debug__":Str))=false:=by decide):PE X (.Name x pos) (tC v):=
 λ_ _ _ H _ I h=>zfX I hg hm hv ⟨v,H,I,r,h⟩ hn hd
variable{a b:Expr}{ta tb:TE}{pos:Pos}
def PC(X:Cx)(op:CmpOp)(a b:Expr)(t:TE):Prop:=
 ∀(pins:List (Addr×Obj)) (s:Shared) (σ:St) (H:Hp) (Q:VK),Inv X pins σ H s->t σ H Q->
  wpAny (model X.prog X.w) X.A (eval a X.env) (λv s₁=>wpAny (model X.prog X.w) X.A (eval b X.env) (λu s₂=>wpAny (model X.prog X.w) X.A (compareOp op v u) (EP X pins σ Q) X.xe s₂) X.xe s₁) X.xe s
noncomputable def tB(t:TE):TT:=λσ H Q=>t σ H λx H1=>∃c,x= .bl c/\Q c H1
theorem pt_cmp{op:CmpOp}{t:TE}(h:PC X op a b t)(h1:behindInMarks op b=false:=by first|exact nobehind _ (by decide) (by decide)|rfl):PT X (.Compare a [op] [b] pos) (tB t):=by
 intro pins s σ H Q I hw
 refine wpAny_isTrue_Compare1 (thn (h pins s σ H _ I hw) λv s1 h1=>thn h1 λu s2 h2=>thn h2 λc s3 ⟨x,H1,I1,r1,q1⟩=>?_) h1
 obtain⟨d,rfl,q⟩:=q1
 cases r1
 exact wpAny_truthy_bool ⟨H1,I1,q⟩
theorem zpt{e:Expr}{t:TE}(h:PE X e t)(he:∀whole,isTrue e X.env whole=(do let v ←whole;standAt e.pos;holding [v] (truthy v)):=by intro _;rfl):PT X e (tB t):=by
 intro pins s σ H Q I hw
 refine isTrue_plain (thn (h pins s σ H _ I hw) λv s1 ⟨x,H1,I1,r1,q1⟩=>?_) (he _)
 obtain⟨d,rfl,q⟩:=q1
 cases r1
 exact wpAny_truthy_bool ⟨H1,I1,q⟩
variable{tA tB':TT}{rest:List Expr}
noncomputable def zqB(t u:TT):TT:=λσ H Q=>t σ H λc H1=>if c=true then u σ H1 Q else Q false H1
noncomputable def tOr(t u:TT):TT:=λσ H Q=>t σ H λc H1=>if c=true then Q true H1 else u σ H1 Q
noncomputable def zqC(t:TT):TT:=λσ H Q=>t σ H λc H1=>Q (!c) H1
theorem zoc(ha:PT X a tA):PW X (.BoolOp .And [a] pos) tA:=by
 intro wh pins s σ H Q I h
 refine isTrue_and (thn (ha pins s σ H Q I h) λc s1 e=>?_)
 cases c with
 |true=>exact isTrue_and_nil e
 |false=>exact e
theorem zpy(ha:PT X a tA):PW X (.BoolOp .Or [a] pos) tA:=by
 intro wh pins s σ H Q I h
 refine isTrue_or (thn (ha pins s σ H Q I h) λc s1 e=>?_)
 cases c with
 |false=>exact isTrue_or_nil e
 |true=>exact e
theorem zpS(ha:PT X a tA)(hb:PW X (.BoolOp .And (b::rest) pos) tB'):PW X (.BoolOp .And (a::b::rest) pos) (zqB tA tB'):=by
 intro wh pins s σ H Q I h
 refine isTrue_and (thn (ha pins s σ H _ I h) λc s1 ⟨H1,I1,q1⟩=>?_)
 cases c with
 |true=>exact hb wh pins s1 σ H1 Q I1 q1
 |false=>exact ⟨H1,I1,q1⟩
theorem zqr(ha:PT X a tA)(hb:PW X (.BoolOp .Or (b::rest) pos) tB'):PW X (.BoolOp .Or (a::b::rest) pos) (tOr tA tB'):=by
 intro wh pins s σ H Q I h
 refine isTrue_or (thn (ha pins s σ H _ I h) λc s1 ⟨H1,I1,q1⟩=>?_)
 cases c with
 |true=>exact ⟨H1,I1,q1⟩
 |false=>exact hb wh pins s1 σ H1 Q I1 q1
theorem zp4(ha:PT X a tA):PT X (.UnaryOp .Not a pos) (zqC tA):=by
 intro pins s σ H Q I h
 exact isTrue_not (ha pins s σ H (λc H1=>Q (!c) H1) I h)
noncomputable def zo1(ta tb:TE):TE:=λσ H Q=>ta σ H λx H1=>∃c,x= .bl c/\if c=true then tb σ H1 Q else Q (.bl false) H1
noncomputable def zoG(ta:TE):TE:=λσ H Q=>ta σ H λx H1=>∃c,x= .bl c/\Q (.bl (!c)) H1
theorem zo9{op}{t:TE}(h:PE X a t):PE X (.BoolOp op [a] pos) t:=λpins s σ H Q I hw=>BoolOp_one (h pins s σ H Q I hw)
theorem zpV(ha:PE X a ta)(hb:PE X (.BoolOp .And (b::rest) pos) tb):PE X (.BoolOp .And (a::b::rest) pos) (zo1 ta tb):=by
 intro pins s σ H Q I h
 refine BoolOp_and (thn (ha pins s σ H _ I h) λv s1 ⟨x,H1,I1,r1,q1⟩=>?_)
 obtain⟨c,rfl,q1⟩:=q1
 cases r1
 refine wpAny_truthy_bool ?_
 cases c with
 |true=>exact hb pins s1 σ H1 Q I1 q1
 |false=>exact ⟨.bl false,H1,I1,rfl,q1⟩
theorem zpZ(ha:PE X a ta):PE X (.UnaryOp .Not a pos) (zoG ta):=by
 intro pins s σ H Q I h
 refine UnaryOp_ (thn (ha pins s σ H _ I h) λv s1 ⟨x,H1,I1,r1,q1⟩=>?_)
 obtain⟨c,rfl,q1⟩:=q1
 cases r1
 exact not_of (wpAny_truthy_bool ⟨.bl (!c),H1,I1,rfl,q1⟩)
noncomputable def tIf(t:TT)(ta tb:TE):TE:=λσ H Q=>t σ H λc H1=>if c=true then ta σ H1 Q else tb σ H1 Q
theorem zmO{c:Expr}(hc:PT X c tA)(ha:PE X a ta)(hb:PE X b tb):PE X (.IfExp c a b pos) (tIf tA ta tb):=by
 intro pins s σ H Q I h
 refine wpAny_IfExp (thn (hc pins s σ H _ I h) λd s1 ⟨H1,I1,q1⟩=>?_)
 cases d with
 |true=>exact ha pins s1 σ H1 Q I1 q1
 |false=>exact hb pins s1 σ H1 Q I1 q1
end
def SqL(K:PySem.W.Frag)(H:Hp)(a:Addr)(xs:List V):Prop:=
 Rd H a (.lst xs)\/
  ∃(o:Obj) (its:Array Value) (n:Nat),K.lookup a=some o/\o.cls= .type "list"/\o.dict=none/\o.data= .seq its n/\its.size<=sizeLine/\Vals xs its.toList
def SqT(K:PySem.W.Frag)(H:Hp)(a:Addr)(xs:List V):Prop:=
 Rd H a (.tup xs)\/
  ∃(o:Obj) (its:Array Value) (n:Nat),K.lookup a=some o/\o.cls= .type "tuple"/\o.data= .seq its n/\its.size<=sizeLine/\Vals xs its.toList
noncomputable def zqU:Value->Option V
 | .none=>some .non
 | .bool b=>some (.bl b)
 | .int i _=>some (.int i)
 | .str x _=>some (.str x)
 | .bytes b _=>some (.byt b)
 | .float b _=>some (.flt b)
 | .ref a=>some (.ref a)
 | .type n=>some (.ty n)
 |_=>none
theorem RelV.abs{x:V}{u:Value}(r:RelV x u):zqU u=some x:=by
 cases x with
 |non=>cases r;rfl
 |bl _=>cases r;rfl
 |int _=>obtain ⟨t,rfl⟩:=r;rfl
 |str _=>obtain ⟨t,rfl⟩:=r;rfl
 |byt _=>obtain ⟨t,rfl⟩:=r;rfl
 |flt _=>obtain ⟨t,rfl⟩:=r;rfl
 |ref _=>cases r;rfl
 |ty _=>cases r;rfl
theorem RelV.inj{x y:V}{u:Value}(r:RelV x u)(q:RelV y u):x=y:=Option.some.inj (r.abs.symm.trans q.abs)
theorem Vals.inj:∀{xs ys:List V} {us:List Value},Vals xs us->Vals ys us->xs=ys
 |_,_,_, .nil, .nil=>rfl
 |_,_,_, .cons r t, .cons r' t'=>by rw[r.inj r',Vals.inj t t']
section
variable{X:Cx}{pins:List (Addr×Obj)}{σ:St}{H:Hp}{s:Shared}{a:Addr}{xs ys:List V}
theorem SqL.of{K:PySem.W.Frag}(h:H a=some (.lst xs)):SqL K H a xs:= .inl (.inl h)
theorem SqT.of{K:PySem.W.Frag}(h:H a=some (.tup xs)):SqT K H a xs:= .inl (.inl h)
theorem Inv.list(I:Inv X pins σ H s)(h:SqL X.K H a xs):∃its:List Value,Vals xs its/\PlainL s.heap a its.toArray/\xs.length<=sizeLine:=by
 rcases h with h|⟨o,its,n,hk,hc,hd,hs,hz,r⟩
 ·obtain ⟨z,its,n,r,e⟩:=h.ok I.hok
  exact⟨its,r,⟨_,n,e,rfl,rfl,rfl⟩,z⟩
 ·refine ⟨its.toList,r,⟨o,n,I.kIn a o hk,hc,hd,by simpa using hs⟩,?_⟩
  have e:=r.length
  simp only[Array.length_toList] at e
  omega
theorem Inv.tuple(I:Inv X pins σ H s)(h:SqT X.K H a xs):∃its:List Value,Vals xs its/\IsTup s.heap a its.toArray/\xs.length<=sizeLine:=by
 rcases h with h|⟨o,its,n,hk,hc,hs,hz,r⟩
 ·obtain ⟨z,its,r,p,_⟩:=h.ok I.hok
  exact⟨its,r,p,z⟩
 ·refine ⟨its.toList,r,⟨o,I.kIn a o hk,hc,n,by simpa using hs⟩,?_⟩
  have e:=r.length
  simp only[Array.length_toList] at e
  omega
theorem Inv.list_inj(I:Inv X pins σ H s)(h:SqL X.K H a xs)(h':SqL X.K H a ys):xs=ys:=by
 obtain⟨its,r,⟨o,n,e,_,_,d⟩,_⟩:=I.list h
 obtain⟨its',r',⟨o',n',e',_,_,d'⟩,_⟩:=I.list h'
 rw[e] at e';cases e'
 rw[d] at d'
 injection d' with d1 _
 have:its=its':=by simpa using congrArg Array.toList d1
 subst this
 exact r.inj r'
theorem Inv.tuple_inj(I:Inv X pins σ H s)(h:SqT X.K H a xs)(h':SqT X.K H a ys):xs=ys:=by
 obtain⟨its,r,⟨o,e,_,n,d⟩,_⟩:=I.tuple h
 obtain⟨its',r',⟨o',e',_,n',d'⟩,_⟩:=I.tuple h'
 rw[e] at e';cases e'
 rw[d] at d'
 injection d' with d1 _
 have:its=its':=by simpa using congrArg Array.toList d1
 subst this
 exact r.inj r'
end
abbrev Cx.wish(X:Cx)(E:Value->Shared->Prop):Cx:={X with xe:=E}
noncomputable abbrev Cx.nox(X:Cx):Cx:=X.wish λ_ _=>False
theorem Cx.Ok.wish{X:Cx}(ok:X.Ok)(E:Value->Shared->Prop):(X.wish E).Ok:=
 ⟨ok.mod,ok.kind,ok.glob,ok.blt,ok.above,ok.inj,ok.has,ok.cab,ok.hd,ok.frames,ok.stk,ok.exf,ok.bs,ok.bsz,ok.noex,ok.exfs,ok.funs,ok.frf⟩
theorem Cx.Ok.unwish{X:Cx}{E:Value->Shared->Prop}(ok:(X.wish E).Ok):X.Ok:=
 ⟨ok.mod,ok.kind,ok.glob,ok.blt,ok.above,ok.inj,ok.has,ok.cab,ok.hd,ok.frames,ok.stk,ok.exf,ok.bs,ok.bsz,ok.noex,ok.exfs,ok.funs,ok.frf⟩
section
variable{X:Cx}{pins:List (Addr×Obj)}{σ:St}{H:Hp}{s:Shared}{E:Value->Shared->Prop}
theorem Inv.wish(I:Inv X pins σ H s)(E:Value->Shared->Prop):Inv (X.wish E) pins σ H s:=⟨I.ok.wish E,I.os,I.bare,I.base,I.loc,I.cell,I.free,I.freeC,I.pin,I.hok,I.len⟩
theorem Inv.unwish(I:Inv (X.wish E) pins σ H s):Inv X pins σ H s:=⟨I.ok.unwish,I.os,I.bare,I.base,I.loc,I.cell,I.free,I.freeC,I.pin,I.hok,I.len⟩
theorem SP.unwish{D:Ends}{f:Flow}{s':Shared}(h:SP (X.wish E) pins D f s'):SP X pins D f s':=by
 cases f with
 |next=>obtain ⟨σ',H',I,q⟩:=h;exact⟨σ',H',I.unwish,q⟩
 |brk=>obtain ⟨σ',H',I,q⟩:=h;exact⟨σ',H',I.unwish,q⟩
 |cont=>obtain ⟨σ',H',I,q⟩:=h;exact⟨σ',H',I.unwish,q⟩
 |ret u=>obtain ⟨v,σ',H',I,r,q⟩:=h;exact⟨v,σ',H',I.unwish,r,q⟩
theorem PSs.nox{st:List Stmt}{t:TS}(h:PSs X.nox st t):PSs X st t:=λpins s σ H D I hw=>
 wpAny_mono (h pins s σ H D (I.wish _) hw) (λ_ _ q=>q.unwish) λ_ _ z=>False.elim z
end
section
variable{X:Cx}{st:Stmt}{rest:List Stmt}{t u:TS}{e:Expr}{te:TE}{pos:Pos}
noncomputable def zoH:TS:=λD σ H=>D.nx σ H
noncomputable def zlj(t u:TS):TS:=λD σ H=>t {D with nx:=u D} σ H
theorem zok:PSs X [] zoH:=λ_ _ σ H _ I h=>wpAny_execs_nil ⟨σ,H,I,h⟩
theorem zhY(h1:PS X st t)(h2:PSs X rest u):PSs X (st::rest) (zlj t u):=by
 intro pins s σ H D I h
 refine wpAny_execs_cons (thn (h1 pins s σ H {D with nx:=u D} I h) λf s1 q=>?_)
 cases f with
 |next=>
  obtain⟨σ',H',I',q⟩:=q
  exact h2 pins s1 σ' H' D I' q
 |ret v=>exact q
 |brk=>exact q
 |cont=>exact q
theorem znB(h1:PS X st t):PSs X [st] t:=by
 intro pins s σ H D I h
 refine wpAny_execs_cons (thn (h1 pins s σ H D I h) λf s1 q=>?_)
 cases f with
 |next=>exact wpAny_execs_nil q
 |ret v=>exact q
 |brk=>exact q
 |cont=>exact q
noncomputable def zoZ:TS:=λD σ H=>D.ct σ H
theorem ziE:PS X (.Continue pos) zoZ:=λ_ _ σ H _ I h=>wpAny_Continue ⟨σ,H,I,h⟩
theorem Inv.quiet{pins:List (Addr×Obj)}{σ:St}{H:Hp}{s:Shared}(I:Inv X pins σ H s):interactive X.env=false:=by simp[interactive,I.ok.kind]
noncomputable def zoK(te:TE):TS:=λD σ H=>te σ H λ_ H1=>D.nx σ H1
theorem zoA(he:PE X e te)(hs:swapsWith e none pos.line X.env=pure false:=by rfl):PS X (.Expr e pos) (zoK te):=by
 intro pins s σ H D I h
 exact wpAny_Expr_any (thn (he pins s σ H _ I h) λv s1 ⟨x,H1,I1,r1,q1⟩=>⟨σ,H1,I1,q1⟩) I.quiet hs
noncomputable def zqF(te:TE):TS:=λD σ H=>te σ H D.rt
theorem zp1(he:PE X e te):PS X (.Return (some e) pos) (zqF te):=by
 intro pins s σ H D I h
 exact wpAny_Return_some (thn (he pins s σ H _ I h) λv s1 ⟨x,H1,I1,r1,q1⟩=>⟨x,σ,H1,I1,r1,q1⟩)
noncomputable def zoN:TS:=λD _ H=>D.rt .non H
theorem zos:PS X (.Return none pos) zoN:=λ_ _ σ H _ I h=>wpAny_Return_none ⟨.non,σ,H,I,rfl,h⟩
noncomputable def zqf(c:TT)(t u:TS):TS:=λD σ H=>c σ H λb H1=>if b=true then t D σ H1 else u D σ H1
theorem zqL{c:Expr}{a b:List Stmt}{tc:TT}(hc:PT X c tc)(ha:PSs X a t)(hb:PSs X b u):PS X (.If c a b pos) (zqf tc t u):=by
 intro pins s σ H D I h
 refine wpAny_If (thn (hc pins s σ H _ I h) λd s1 ⟨H1,I1,q1⟩=>?_)
 cases d with
 |true=>exact ha pins s1 σ H1 D I1 q1
 |false=>exact hb pins s1 σ H1 D I1 q1
end
noncomputable abbrev TG:=V->St->Hp->(St->Hp->Prop)->Prop
noncomputable abbrev TGs:=List V->St->Hp->(St->Hp->Prop)->Prop
def PG(X:Cx)(target:Expr)(t:TG):Prop:=
 ∀(pins:List (Addr×Obj)) (s:Shared) (σ:St) (H:Hp) (v:V) (u:Value) (Q:St->Hp->Prop),Inv X pins σ H s->RelV v u->t v σ H Q->
  wpAny (model X.prog X.w) X.A (assign target X.env u) (λ_ s'=>∃σ' H',Inv X pins σ' H' s'/\Q σ' H') X.xe s
def PGs(X:Cx)(ts:List Expr)(t:TGs):Prop:=
 ∀(pins:List (Addr×Obj)) (s:Shared) (σ:St) (H:Hp) (vs:List V) (us:List Value) (Q:St->Hp->Prop),Inv X pins σ H s->Vals vs us->t vs σ H Q->
  wpAny (model X.prog X.w) X.A (assignInOrder ((assignEach ts X.env).map (·.2)) us) (λ_ s'=>∃σ' H',Inv X pins σ' H' s'/\Q σ' H') X.xe s
noncomputable abbrev znm:=V->V->V->Hp->(Hp->Prop)->Prop
def zpQ(X:Cx)(t:znm):Prop:=
 ∀(pins:List (Addr×Obj)) (s:Shared) (σ:St) (H:Hp) (o i v:V) (ov iv u:Value) (Q:Hp->Prop),Inv X pins σ H s->RelV o ov->RelV i iv->RelV v u->t o i v H Q->
  wpAny (model X.prog X.w) X.A (setItem ov iv u) (λ_ s'=>∃H',Inv X pins σ H' s'/\Q H') X.xe s
section
variable{X:Cx}{pos:Pos}
noncomputable def zcU(i:Nat):TG:=λv σ H Q=>Q (σ.set i (some v)) H
theorem zkl{i:Nat}{x:Str}(hN:X.N.Nodup)(hi:X.N[i]?=some x)(hx:Loc X.env.scope x)(hf:X.fn x=true\/X.env.scope.names.lookup x=some .local:=by first|exact .inl rfl|exact .inr rfl|assumption):PG X (.Name x pos) (zcU i):=by
 intro pins s σ H v u Q I r h
 exact wpAny_assign_Name (zde I hN hi hx r (λs' I'=>⟨_,H,I',h⟩) hf)
noncomputable def zqe:TGs:=λvs σ H Q=>vs=[]/\Q σ H
noncomputable def zo3(t:TG)(u:TGs):TGs:=λvs σ H Q=>∃v r,vs=v::r/\t v σ H λσ' H'=>u r σ' H' Q
theorem zny:PGs X [] zqe:=by
 intro pins s σ H vs us Q I r h
 obtain⟨e,h⟩:=h
 subst e
 cases r
 exact assignInOrder_nil ⟨σ,H,I,h⟩
theorem zlI{e:Expr}{es:List Expr}{t:TG}{u:TGs}(h1:PG X e t)(h2:PGs X es u)
 (hs:(assignEach (e::es) X.env).map (·.2)=assign e X.env::(assignEach es X.env).map (·.2):=by rfl):PGs X (e::es) (zo3 t u):=by
 intro pins s σ H vs us Q I r h
 obtain⟨v,vr,e1,h⟩:=h
 subst e1
 cases r with
 |cons r rr=>
  rw[hs]
  refine assignInOrder_cons (thn (h1 pins s σ H _ _ _ I r h) λ_ s1 ⟨σ1,H1,I1,q1⟩=>?_)
  exact h2 pins s1 σ1 H1 _ _ Q I1 rr q1
noncomputable def zpO(K:PySem.W.Frag)(n:Nat)(t:TGs):TG:=λv σ H Q=>∃a xs,v= .ref a/\SqT K H a xs/\xs.length=n/\t xs σ H Q
theorem zpU{es:List Expr}{k:Nat}{t:TGs}{n:Nat}(hc:X.calm=true)(h:PGs X es t)
 (hn:(assignEach es X.env).length=n:=by rfl) (hst:(assignEach es X.env).findIdx? (·.1)=none:=by rfl):PG X (.Tuple es k pos) (zpO X.K n t):=by
 intro pins s σ H v u Q I r hw
 obtain⟨a,xs,e1,hq,hl,hw⟩:=hw
 subst e1
 cases r
 obtain⟨its,rv,ht,hz⟩:=I.tuple hq
 refine assign_Tuple_tuple (I.ok.hd hc) ht (by simp[hn,←hl,rv.length]) hst λh' hx=>?_
 have I1:Inv X pins σ H {s with heap:=h'}:=I.kept (t':=s.toks) λb o e=>hx b o (Nat.ne_of_lt (Heap.lt_size e)) e
 exact h pins _ σ H xs _ Q I1 (by simpa using rv) hw
noncomputable def zqj(to ti:TE)(t:znm):TG:=λv σ H Q=>to σ H λo H1=>ti σ H1 λi H2=>t o i v H2 λH3=>Q σ H3
theorem zpB{o i:Expr}{to ti:TE}{t:znm}(ho:PE X o to)(hi:PE X i ti)(hs:zpQ X t)
 (ha:∀v,assign (.Subscript o i pos) X.env v=(do
   let ov ←holding [v] (eval o X.env)
   let iv ←holding [v,ov] (eval i X.env)
   standAt pos
   holding [v,ov,iv] (setItem ov iv v)
   release [v,ov,iv] []):=by intro _;rfl):PG X (.Subscript o i pos) (zqj to ti t):=by
 intro pins s σ H v u Q I r h
 rw[ha]
 refine wpAny_bind (wpAny_holding (thn (ho pins s σ H _ I h) λov s1 ⟨x,H1,I1,r1,q1⟩=>?_))
 refine wpAny_bind (wpAny_holding (thn (hi pins s1 σ H1 _ I1 q1) λiv s2 ⟨y,H2,I2,r2,q2⟩=>?_))
 refine wpAny_bind (wpAny_standAt (wpAny_bind (wpAny_holding (thn (hs pins s2 σ H2 x y v ov iv u _ I2 r1 r2 r q2) λ_ s3 ⟨H3,I3,q3⟩=>?_))))
 exact wpAny_release ⟨σ,H3,I3,q3⟩
noncomputable def zjO(te:TE)(g:TG):TS:=λD σ H=>te σ H λx H1=>g x σ H1 D.nx
theorem zpq{tg e:Expr}{te:TE}{g:TG}(he:PE X e te)(hg:PG X tg g)(hs:swapsWithSole [tg] e pos.line X.env=pure false:=by rfl)(hw:swappedStores [tg] e X.env=pure none:=by rfl)
 (h1:(assignEach [tg] X.env).map (·.2)=[assign tg X.env]:=by rfl):PS X (.Assign [tg] e pos) (zjO te g):=by
 intro pins s σ H D I h
 refine wpAny_Assign_stores (thn (he pins s σ H _ I h) λv s1 ⟨x,H1,I1,r1,q1⟩=>?_) hs hw
 rw[h1]
 exact thn (hg pins s1 σ H1 x v _ I1 r1 q1) λ_ s2 q=>q
theorem zmq{i:Nat}{x:Str}{e:Expr}{te:TE}{pos':Pos}(hN:X.N.Nodup)(hi:X.N[i]?=some x)(hx:Loc X.env.scope x)(he:PE X e te)(hs:swapsWith e (some (.Name x pos')) pos.line X.env=pure false:=by rfl)(hf:X.fn x=true\/X.env.scope.names.lookup x=some .local:=by first|exact .inl rfl|exact .inr rfl|assumption):
 PS X (.Assign [.Name x pos'] e pos) (zjO te (zcU i)):=by
 intro pins s σ H D I h
 refine wpAny_Assign_Name (thn (he pins s σ H _ I h) λv s1 ⟨y,H1,I1,r1,q1⟩=>?_) hs
 exact zde I1 hN hi hx r1 (λs2 I2=>⟨_,H1,I2,q1⟩) hf
noncomputable def zqp(i j:Nat)(ta:TA):TS:=λD σ H=>ta σ H λvs H1=>∃v w,vs=[v,w]/\D.nx ((σ.set i (some v)).set j (some w)) H1
theorem zps{i j:Nat}{x y:Str}{a b:Expr}{ta:TA}{px py pt:Pos}{kt k2 pt2}(hc:X.calm=true)(hN:X.N.Nodup)(hi:X.N[i]?=some x)(hj:X.N[j]?=some y)(hij:i≠j)
 (hx:X.env.scope.names.lookup x=some .local) (hy:X.env.scope.names.lookup y=some .local) (ha:PA X [a,b] ta)
 (hw:swappedStores [.Tuple [.Name x px, .Name y py] kt pt] (.Tuple [a,b] k2 pt2) X.env=pure (some [x,y]))
 (hs:swapsWithSole [.Tuple [.Name x px, .Name y py] kt pt] (.Tuple [a,b] k2 pt2) pos.line X.env=pure false:=by rfl):
 PS X (.Assign [.Tuple [.Name x px, .Name y py] kt pt] (.Tuple [a,b] k2 pt2) pos) (zqp i j ta):=by
 intro pins s σ H D I h
 rw[exec_Assign_arm]
 refine wpAny_bind (wpAny_standAt ?_)
 rw[hs]
 refine wpAny_bind (wpAny_pure ?_)
 rw[if_neg (by decide)]
 refine wpAny_bind (Tuple_ (thn (ha _ pins s σ H _ I h) λus s1 ⟨vs,H1,I1,r1,q1⟩=>?_))
 obtain⟨v,w,e1,q1⟩:=q1
 subst e1
 obtain⟨u1,u2,rfl,rv,rw'⟩:∃u1 u2,us=[u1,u2]/\RelV v u1/\RelV w u2:=by
  cases r1 with
  |cons p q=>
   cases q with
   |cons p' q'=>
    cases q'
    exact⟨_,_,rfl,p,p'⟩
 refine wpAny_newObj_type ?_ (by show 2<=sizeLine;decide)
 have I2:Inv X pins σ H1 {s1 with heap:=s1.heap.push {cls:= .type "tuple",data:= .seq [u1,u2].toArray}}:=I1.kept (t':=s1.toks) λb o e=>Heap.get?_push_of_some _ e
 rw[hw]
 refine wpAny_bind (wpAny_pure ?_)
 show wpAny (model X.prog X.w) X.A (do rule "assign.swapped-stores";let items ←unpackItems (.ref s1.heap.objs.size) 2 none;assignInOrder [λv=>bindName X.env y v,λv=>bindName X.env x v] items.reverse;pure Flow.next) _ _ _
 refine wpAny_bind (wpAny_rule (wpAny_bind (unpackItems_tuple (items:= #[u1,u2]) (I.ok.hd hc) (IsTup.new s1.heap _) λh' hx'=>?_)))
 have I3:=I2.kept (h':=h') (t':=s1.toks) λb o e=>hx' b o (Nat.ne_of_lt (Heap.lt_size e)) e
 show wpAny _ _ (assignInOrder [λv=>bindName X.env y v,λv=>bindName X.env x v] [u2,u1]>>=λ_=>pure Flow.next) _ _ _
 refine wpAny_bind (assignInOrder_cons (wpAny_bindName (zde I3 hN hj (.inl hy) rw' (λs2 I4=>?_) (.inr hy))))
 refine assignInOrder_cons (wpAny_bindName (zde I4 hN hi (.inl hx) rv (λs3 I5=>assignInOrder_nil (wpAny_pure ?_)) (.inr hx)))
 rw[List.set_comm _ _ (Ne.symm hij)] at I5
 exact⟨_,H1,I5,q1⟩
end
section
variable{X:Cx}{pos:Pos}
noncomputable def zlN(c:TT)(tb:TS):TS:=λD σ H=>∃W:Nat->St->Hp->Prop,(∃m,W m σ H)/\∀m σ H,W m σ H->
 c σ H λb H1=>if b=true then∃N:St->Hp->Prop,(∀σ' H',N σ' H'->∃m',m'<m/\W m' σ' H')/\tb {D with nx:=N,ct:=N,bk:=D.nx} σ H1 else D.nx σ H1
theorem zm2{c:Expr}{body:List Stmt}{tc:TT}{tb:TS}(hp:PassesOwn (model X.prog X.w) X.A X.env X.xe)(hc:PT X c tc)(hb:PSs X body tb):PS X (.While c body [] pos) (zlN tc tb):=by
 intro pins s σ H D I h
 obtain⟨W,⟨m0,w0⟩,turn⟩:=h
 refine wpAny_While (codeAny_whileLoop (λn s'=>∃σ' H',Inv X pins σ' H' s'/\W n σ' H') ?_ m0 ⟨σ,H,I,w0⟩)
 rintro n s1 ⟨σ1,H1,I1,w1⟩
 refine wpAny_passesOwn hp (thn (hc pins s1 σ1 H1 _ I1 (turn n σ1 H1 w1)) λb s2 ⟨H2,I2,q2⟩=>?_)
 cases b with
 |true=>
  obtain⟨N,hN,q2⟩:=q2
  rw[if_pos rfl]
  refine wpAny_passesOwn hp (thn (hb pins s2 σ1 H2 _ I2 q2) λf s3 q3=>?_)
  cases f with
  |next=>
   obtain⟨σ3,H3,I3,n3⟩:=q3
   obtain⟨m',hm,w3⟩:=hN σ3 H3 n3
   exact⟨m',hm,σ3,H3,I3,w3⟩
  |cont=>
   obtain⟨σ3,H3,I3,n3⟩:=q3
   obtain⟨m',hm,w3⟩:=hN σ3 H3 n3
   exact⟨m',hm,σ3,H3,I3,w3⟩
  |brk=>exact q3
  |ret v=>exact q3
 |false=>
  rw[if_neg Bool.false_ne_true]
  exact wpAny_execs_nil ⟨σ1,H2,I2,q2⟩
end
structure It where
 go:Nat->Hp->Prop
 yld:Nat->Hp->V->Hp->Prop
 stop:Nat->Hp->Prop
def zex(X:Cx)(pins:List (Addr×Obj))(H:Hp)(b:Addr):Prop:=
 H b=none/\b≠X.env.locals/\b∉X.fs/\(b∈X.ex\/X.s₀.heap.objs.size<=b)/\(∀x c,X.env.cells.lookup x=some c->c≠b)/\∀p∈X.pn ++pins,p.1≠b
theorem Inv.fpOk{X:Cx}{pins:List (Addr×Obj)}{σ:St}{H H':Hp}{s:Shared}{b:Addr}(I:Inv X pins σ H s)(hb:s.heap.objs.size<=b)(hn:H' b=none):zex X pins H' b:=by
 refine⟨hn,Nat.ne_of_gt (Nat.lt_of_lt_of_le I.lt hb),I.nofs hb, .inr (Nat.le_trans I.sz hb),λx c e z=>?_,λp hp z=>?_⟩
 ·obtain ⟨v,q⟩:=I.cell x c e
  exact absurd (Nat.lt_of_lt_of_le q.lt (by rw[z];exact hb)) (Nat.lt_irrefl _)
 ·exact absurd (Nat.lt_of_lt_of_le (Heap.lt_size (I.pin p hp).1) (by rw[z];exact hb)) (Nat.lt_irrefl _)
structure Turn(P:Program)(w:World)(K:PySem.W.Frag)(tg:Expr)(J:It)(fp:List Addr)(it:Addr)(tn:Nat->Heap->Prop):Prop where
 mem:it∈fp
 obj:∀i h,tn i h->∀b∈fp,∃o,h.get? b=some o/\∀v,o.data≠ .cell v
 keep:∀i h h',tn i h->(∀b∈fp,∀o,h.get? b=some o->h'.get? b=some o)->tn i h'
 item:∀(X:Cx),X.prog=P->X.w=w->X.K=K->X.calm=true->∀(i:Nat) (pins:List (Addr×Obj)) (s:Shared) (σ:St) (H:Hp) (E:Value->Shared->Prop),Inv X pins σ H s->(∀b∈fp,zex X pins H b)->tn i s.heap->J.go i H->
  wpAny (model P w) X.A (pyNext (.ref it)) (λr s1=>∃u,r=some u/\
   wpAny (model P w) X.A (letOwnedTupleGo tg (.ref it) u) (λ_ s2=>∃x H',Inv X pins σ H' s2/\RelV x u/\J.yld i H x H'/\tn (i+1) s2.heap/\∀b∈fp,H' b=none) E s1) E s
 done:∀(X:Cx),X.prog=P->X.w=w->X.K=K->X.calm=true->∀(i:Nat) (pins:List (Addr×Obj)) (s:Shared) (σ:St) (H:Hp) (E:Value->Shared->Prop),Inv X pins σ H s->(∀b∈fp,zex X pins H b)->tn i s.heap->J.stop i H->
   wpAny (model P w) X.A (pyNext (.ref it)) (λr s1=>r=none/\Inv X pins σ H s1) E s
 self:∀(A:Around) (i:Nat) (s:Shared) (Q:Value->Shared->Prop) (E:Value->Shared->Prop),tn i s.heap->Q (.ref it) s->wpAny (model P w) A (pyIter (.ref it)) Q E s
noncomputable abbrev TI:=St->Hp->(It->Hp->Prop)->Prop
def PIE(X:Cx)(pins:List (Addr×Obj))(σ:St)(tg:Expr)(R:It->Hp->Prop)(itv:Value)(s2:Shared):Prop:=
 ∃(it:Addr) (fp:List Addr) (tn:Nat->Heap->Prop) (J:It) (H':Hp),itv= .ref it/\Inv X pins σ H' s2/\Turn X.prog X.w X.K tg J fp it tn/\tn 0 s2.heap/\(∀b∈fp,zex X pins H' b)/\R J H'
def PI(X:Cx)(tg iter:Expr)(wi:TI):Prop:=
 ∀(pins:List (Addr×Obj)) (s:Shared) (σ:St) (H:Hp) (R:It->Hp->Prop),Inv X pins σ H s->wi σ H R->
  wpAny (model X.prog X.w) X.A (eval iter X.env) (λv s1=>wpAny (model X.prog X.w) X.A (pyIter v) (PIE X pins σ tg R) X.xe s1) X.xe s
theorem zkv{M:Model}{A:Around}{E:Value->Shared->Prop}{s:Shared}{tg:Expr}{it:Addr}{u:Value}{o:Obj}{n:String}{vs:Array Value}{Q:Unit->Shared->Prop}(ho:s.heap.get? it=some o)(hc:o.cls= .type n)(hd:o.data= .fields vs)
 (hn:["enumerate","zip","dict_itemiterator","dict_reverseitemiterator","odict_iterator","itertools.zip_longest","itertools.pairwise"].contains n=false) (hQ:Q () s):wpAny M A (letOwnedTupleGo tg (.ref it) u) Q E s:=by
 unfold letOwnedTupleGo
 cases tg<;>first
  |exact wpAny_pure hQ
  |(cases u<;>first
     |exact wpAny_pure hQ
     |(refine wpAny_bind (wpAny_load ho ?_)
       rw[hc,hd]
       show wpAny M A (if(["enumerate","zip","dict_itemiterator","dict_reverseitemiterator","odict_iterator","itertools.zip_longest","itertools.pairwise"].contains n&&vs[0]?==some (rawInt _))=true then _ else _) Q E s
       rw[if_neg (by intro h;rw[hn,Bool.false_and] at h;cases h)]
       exact wpAny_pure hQ))
noncomputable def Itl(K:PySem.W.Frag)(a:Addr):It:=
 ⟨λi H=>∃xs x,SqL K H a xs/\xs[i]?=some x,λi H x H'=>H'=H/\∀xs,SqL K H a xs->xs[i]?=some x,λi H=>∃xs,SqL K H a xs/\xs.length<=i⟩
noncomputable def Itt(K:PySem.W.Frag)(a:Addr):It:=
 ⟨λi H=>∃xs x,SqT K H a xs/\xs[i]?=some x,λi H x H'=>H'=H/\∀xs,SqT K H a xs->xs[i]?=some x,λi H=>∃xs,SqT K H a xs/\xs.length<=i⟩
noncomputable def Itr(lo:Int)(n:Nat):It:=⟨λi _=>i<n,λi H x H'=>H'=H/\x= .int (lo+i),λi _=>n<=i⟩
theorem zkC{P:Program}{w:World}{K:PySem.W.Frag}{tg:Expr}(a it:Addr):Turn P w K tg (Itl K a) [it] it (λi h=>h.IsListIter it a i) where
 mem:=by simp
 obj:=λi h st b hb=>by
  have e:b=it:=by simpa using hb
  subst e
  obtain⟨o,e,c,d⟩:=st
  exact⟨o,e,λv z=>by rw[d] at z;cases z⟩
 keep:=λi h h' st k=>st.at λo e=>k it (by simp) o e
 item:=by
  intro X hP hw hK hc i pins s σ H E I hf st hg
  subst hP hw hK
  obtain⟨xs,x,hq,hx⟩:=hg
  obtain⟨its,rv,p,hz⟩:=I.list hq
  obtain⟨u,hu,ru⟩:=rv.get hx
  obtain⟨f0,f1,f2,f3,f4,f5⟩:=hf it (by simp)
  refine wpAny_pyNext_list_item st p.isList (x:=u) (by simpa using hu) λh' st' sb=>?_
  have I1:Inv X pins σ H {s with heap:=h'}:=I.turned (t':=s.toks) (λb o hb e=>(sb.2 b hb).trans e) f0 f1 f3 f4 f5
  obtain⟨o,e,c,d⟩:=id st'
  exact⟨u,rfl,zkv (s:={s with heap:=h'}) e c d (by decide) ⟨x,H,I1,ru,⟨rfl,λys hy=>by rw[I.list_inj hy hq];exact hx⟩,st',λb hb=>(hf b hb).1⟩⟩
 done:=by
   intro X hP hw hK hc i pins s σ H E I hf st hg
   subst hP hw hK
   obtain⟨xs,hq,hx⟩:=hg
   obtain⟨its,rv,p,hz⟩:=I.list hq
   obtain⟨f0,f1,f2,f3,f4,f5⟩:=hf it (by simp)
   have hl:=rv.length
   exact wpAny_pyNext_list_end (I.ok.hd hc) st p.isList (by simp;omega) λh' eb=>⟨rfl,I.turned (t':=s.toks) (λb o hb e=>eb b o hb e) f0 f1 f3 f4 f5⟩
 self:=λ_ _ _ _ _ st h=>wpAny_pyIter_listiter st h
theorem zjq{P:Program}{w:World}{K:PySem.W.Frag}{tg:Expr}(a it:Addr):Turn P w K tg (Itt K a) [it] it (λi h=>h.IsTupleIter it a i) where
 mem:=by simp
 obj:=λi h st b hb=>by
  have e:b=it:=by simpa using hb
  subst e
  obtain⟨o,e,c,d⟩:=st
  exact⟨o,e,λv z=>by rw[d] at z;cases z⟩
 keep:=λi h h' st k=>st.at λo e=>k it (by simp) o e
 item:=by
  intro X hP hw hK hc i pins s σ H E I hf st hg
  subst hP hw hK
  obtain⟨xs,x,hq,hx⟩:=hg
  obtain⟨its,rv,p,hz⟩:=I.tuple hq
  obtain⟨u,hu,ru⟩:=rv.get hx
  obtain⟨f0,f1,f2,f3,f4,f5⟩:=hf it (by simp)
  refine wpAny_pyNext_tuple_item st (show s.heap.IsTuple a its.toArray from p) (x:=u) (by simpa using hu) λh' st' sb=>?_
  have I1:Inv X pins σ H {s with heap:=h'}:=I.turned (t':=s.toks) (λb o hb e=>(sb.2 b hb).trans e) f0 f1 f3 f4 f5
  obtain⟨o,e,c,d⟩:=id st'
  exact⟨u,rfl,zkv (s:={s with heap:=h'}) e c d (by decide) ⟨x,H,I1,ru,⟨rfl,λys hy=>by rw[I.tuple_inj hy hq];exact hx⟩,st',λb hb=>(hf b hb).1⟩⟩
 done:=by
   intro X hP hw hK hc i pins s σ H E I hf st hg
   subst hP hw hK
   obtain⟨xs,hq,hx⟩:=hg
   obtain⟨its,rv,p,hz⟩:=I.tuple hq
   obtain⟨f0,f1,f2,f3,f4,f5⟩:=hf it (by simp)
   have hl:=rv.length
   exact wpAny_pyNext_tuple_end (I.ok.hd hc) st (show s.heap.IsTuple a its.toArray from p) (by simp;omega) λh' eb=>⟨rfl,I.turned (t':=s.toks) (λb o hb e=>eb b o hb e) f0 f1 f3 f4 f5⟩
 self:=λ_ _ _ _ _ st h=>wpAny_pyIter_tupleiter st h
theorem zjm{P:Program}{w:World}{K:PySem.W.Frag}{tg:Expr}(it:Addr)(lo:Int)(n:Nat):Turn P w K tg (Itr lo n) [it] it (λi h=>IsRangeIter h it (lo+(i:Nat)*1) ((n:Int) -(i:Nat)) 1) where
 mem:=by simp
 obj:=λi h st b hb=>by
  have e:b=it:=by simpa using hb
  subst e
  exact⟨_,st,λv z=>by
   have z':Data.fields _=Data.cell v:=z
   cases z'⟩
 keep:=λi h h' st k=>k it (by simp) _ st
 item:=by
  intro X hP hw hK hc i pins s σ H E I hf st hg
  subst hP hw hK
  obtain⟨f0,f1,f2,f3,f4,f5⟩:=hf it (by simp)
  have W:=Walks.range (prog:=X.prog) (w:=X.w) (I.ok.hd hc) it lo 1 n
  refine W.item i s _ _ hg st λv h' tk hv st' kk=>?_
  obtain⟨t,rfl⟩:=hv
  have I1:Inv X pins σ H {s with heap:=h',toks:=tk}:=I.turned (λb o hb e=>kk b o (by simpa using hb) e) f0 f1 f3 f4 f5
  refine⟨_,rfl,zkv (s:={s with heap:=h',toks:=tk}) (n:="range_iterator") st' rfl rfl (by decide) ⟨.int (lo+i),H,I1,⟨t,?_⟩,⟨rfl,rfl⟩,st',λb hb=>(hf b hb).1⟩⟩
  rw[Int.mul_one]
 done:=by
   intro X hP hw hK hc i pins s σ H E I hf st hg
   subst hP hw hK
   obtain⟨f0,f1,f2,f3,f4,f5⟩:=hf it (by simp)
   exact wpAny_pyNext_range_end (I.ok.hd hc) st (by have:n<=i:=hg;omega) λh' eb=>⟨rfl,I.turned (t':=s.toks) (λb o hb e=>eb b o hb e) f0 f1 f3 f4 f5⟩
 self:=λ_ _ _ _ _ st h=>wpAny_pyIter_rangeiter st h
section
variable{X:Cx}{tg:Expr}
noncomputable def zoR(K:PySem.W.Frag)(tl:TE):TI:=λσ H R=>tl σ H λx H1=>∃a,x= .ref a/\(∃xs,SqL K H1 a xs)/\R (Itl K a) H1
noncomputable def zqy(K:PySem.W.Frag)(tl:TE):TI:=λσ H R=>tl σ H λx H1=>∃a,x= .ref a/\(∃xs,SqT K H1 a xs)/\R (Itt K a) H1
theorem znO{l:Expr}{tl:TE}(hl:PE X l tl):PI X tg l (zoR X.K tl):=by
 intro pins s σ H R I h
 refine thn (hl pins s σ H _ I h) λv s1 ⟨x,H1,I1,r1,q1⟩=>?_
 obtain⟨a,e,⟨xs,hq⟩,q⟩:=q1
 subst e
 cases r1
 obtain⟨its,rv,p,hz⟩:=I1.list hq
 refine wpAny_pyIter_list p.isList ?_
 refine⟨s1.heap.objs.size,[s1.heap.objs.size],_,_,H1,rfl,I1.kept (t':=s1.toks) λb o e=>Heap.get?_push_of_some _ e,zkC a _,⟨_,Heap.get?_push_size _ rfl,rfl,rfl⟩,λb hb=>?_,q⟩
 have e:b=s1.heap.objs.size:=by simpa using hb
 subst e
 exact I1.fpOk (Nat.le_refl _) (I1.hok.fresh (Nat.le_refl _))
theorem zpE{l:Expr}{tl:TE}(hl:PE X l tl):PI X tg l (zqy X.K tl):=by
 intro pins s σ H R I h
 refine thn (hl pins s σ H _ I h) λv s1 ⟨x,H1,I1,r1,q1⟩=>?_
 obtain⟨a,e,⟨xs,hq⟩,q⟩:=q1
 subst e
 cases r1
 obtain⟨its,rv,p,hz⟩:=I1.tuple hq
 refine wpAny_pyIter_tuple (show s1.heap.IsTuple a its.toArray from p) ?_
 refine⟨s1.heap.objs.size,[s1.heap.objs.size],_,_,H1,rfl,I1.kept (t':=s1.toks) λb o e=>Heap.get?_push_of_some _ e,zjq a _,⟨_,Heap.get?_push_size _ rfl,rfl,rfl⟩,λb hb=>?_,q⟩
 have e:b=s1.heap.objs.size:=by simpa using hb
 subst e
 exact I1.fpOk (Nat.le_refl _) (I1.hok.fresh (Nat.le_refl _))
theorem zh0{pins:List (Addr×Obj)}{σ:St}{H:Hp}{s:Shared}{R:It->Hp->Prop}{E:Value->Shared->Prop}{lo hi:Int}{t u v:Tok}{tk:Nat}(I:Inv X pins σ H s)(h1: -(2^62)<=lo)(h2:lo<2^62)(h3: -(2^62)<=hi)(h4:hi<2^62)
 (q:R (Itr lo (hi -lo).toNat) H):wpAny (model X.prog X.w) X.A (pyIter (.ref s.heap.objs.size)) (PIE X pins σ tg R) E {s with heap:=s.heap.push {cls:= .type "range",data:= .fields #[.int lo t, .int hi u, .int 1 v]},toks:=tk}:=by
 refine wpAny_pyIter_range (IsRange.new ..) (small_one h1 h2 h3 h4) ?_
 have I1:Inv X pins σ H {s with heap:=s.heap.push {cls:= .type "range",data:= .fields #[.int lo t, .int hi u, .int 1 v]},toks:=tk}:=I.kept λb o e=>Heap.get?_push_of_some _ e
 refine⟨(s.heap.push {cls:= .type "range",data:= .fields #[.int lo t, .int hi u, .int 1 v]}).objs.size,[(s.heap.push {cls:= .type "range",data:= .fields #[.int lo t, .int hi u, .int 1 v]}).objs.size],_,_,H,rfl,
  I1.kept (t':=tk) λb o e=>Heap.get?_push_of_some _ e,zjm _ lo (hi -lo).toNat,?_,λb hb=>?_,q⟩
 ·have e1:lo+((0:Nat):Int)*1=lo:=by simp
  have e2:(((hi -lo).toNat:Nat):Int) -((0:Nat):Int)=Builtin.Range.rangeSize lo hi 1:=by rw[rangeSize_one];split<;>omega
  show IsRangeIter _ _ (lo+((0:Nat):Int)*1) ((((hi -lo).toNat:Nat):Int) -((0:Nat):Int)) 1
  rw[e1,e2]
  exact Heap.get?_push_size _ rfl
 ·have e:b=(s.heap.push {cls:= .type "range",data:= .fields #[.int lo t, .int hi u, .int 1 v]}).objs.size:=by simpa using hb
  subst e
  exact I1.fpOk (Nat.le_refl _) (I1.hok.fresh (Nat.le_refl _))
noncomputable def zoS(ta:TA):TI:=λσ H R=>ta σ H λvs H1=>∃j:Int,vs=[.int j]/\-(2^62)<=j/\j<2^62/\R (Itr 0 j.toNat) H1
noncomputable def zoD(ta:TA):TI:=λσ H R=>ta σ H λvs H1=>∃i j:Int,vs=[.int i, .int j]/\(-(2^62)<=i/\i<2^62/\-(2^62)<=j/\j<2^62)/\R (Itr i (j -i).toNat) H1
theorem zkX{a:Expr}{ta:TA}{p pos:Pos}(hg:Gl X "range")(hm:X.mg "range"=none)(ha:PA X [a] ta)(hs:starEach [a] X.env=[(false,eval a X.env)]:=by rfl):PI X tg (.Call (.Name "range" p) [a] [] pos) (zoS ta):=by
 intro pins s σ H R I h
 refine Call_ (zfX I hg hm boot_range (PyProof.Rows.callWith_type1 (thn (ha pos pins s σ H _ I h) λus s1 ⟨vs,H1,I1,r1,q1⟩=>?_) hs rfl))
 obtain⟨j,e,q1,q2,q⟩:=q1
 subst e
 cases r1 with
 |cons r rr=>
  cases rr
  obtain⟨t,rfl⟩:=r
  exact call_range_1 (zh0 I1 (by omega) (by omega) q1 q2 (by simpa using q))
theorem zk8{a b:Expr}{ta:TA}{p pos:Pos}(hg:Gl X "range")(hm:X.mg "range"=none)(ha:PA X [a,b] ta)(hs:starEach [a,b] X.env=[(false,eval a X.env),(false,eval b X.env)]:=by rfl)(hs2:starEach [b] X.env=[(false,eval b X.env)]:=by rfl):
 PI X tg (.Call (.Name "range" p) [a,b] [] pos) (zoD ta):=by
 intro pins s σ H R I h
 refine Call_ (zfX I hg hm boot_range (PyProof.Rows.callWith_type1 (thn (ha pos pins s σ H _ I h) λus s1 ⟨vs,H1,I1,r1,q1⟩=>?_) (by rw[hs,hs2]) (by rw[hs2];rfl)))
 obtain⟨i,j,e,⟨q1,q2,q3,q4⟩,q⟩:=q1
 subst e
 cases r1 with
 |cons r rr=>
  cases rr with
  |cons r' rr=>
   cases rr
   obtain⟨t,rfl⟩:=r
   obtain⟨t',rfl⟩:=r'
   exact call_range_2 (zh0 I1 q1 q2 q3 q4 q)
noncomputable def zq5(wi:TI)(g:TG)(tb:TS):TS:=λD σ H=>wi σ H λJ H1=>∃W:Nat->Nat->St->Hp->Prop,(∃m,W 0 m σ H1)/\∀i m σ H,W i m σ H->
 (J.stop i H/\D.nx σ H)\/(J.go i H/\∃N:St->Hp->Prop,(∀σ' H',N σ' H'->∃m',m'<m/\W (i+1) m' σ' H')/\∀x H',J.yld i H x H'->g x σ H' λσ2 H2=>tb {D with nx:=N,ct:=N,bk:=D.nx} σ2 H2)
noncomputable def zeC(fp:List Addr)(h:Heap):List (Addr×Obj):=fp.filterMap λb=>(h.get? b).map λo=>(b,o)
theorem zbc{fp:List Addr}{h:Heap}{b:Addr}{o:Obj}(hb:b∈fp)(e:h.get? b=some o):(b,o)∈zeC fp h:=List.mem_filterMap.mpr ⟨b,hb,by rw[e];rfl⟩
theorem zln{fp:List Addr}{h:Heap}{p:Addr×Obj}(hp:p∈zeC fp h):p.1∈fp/\h.get? p.1=some p.2:=by
 obtain⟨b,hb,e⟩:=List.mem_filterMap.mp hp
 cases q:h.get? b with
 |none=>rw[q] at e;cases e
 |some o=>
  rw[q] at e
  have e':(b,o)=p:=Option.some.inj e
  subst e'
  exact⟨hb,q⟩
theorem Inv.pinned{pins:List (Addr×Obj)}{σ:St}{H:Hp}{s:Shared}{fp:List Addr}(I:Inv X pins σ H s)(hf:∀b∈fp,zex X pins H b)(ho:∀b∈fp,∃o,s.heap.get? b=some o/\∀v,o.data≠ .cell v):Inv X (pins ++zeC fp s.heap) σ H s:=
 I.pins_of λp hp=>(List.mem_append.mp hp).elim (λz=>I.pin p (List.mem_append_right _ z)) λz=>by
  obtain⟨hb,e⟩:=zln z
  obtain⟨f0,f1,f2,_⟩:=hf p.1 hb
  obtain⟨o,e',d⟩:=ho p.1 hb
  rw[e] at e';cases e'
  exact⟨e,f0,f1,f2,d⟩
theorem Inv.unpinned{pins pl:List (Addr×Obj)}{σ:St}{H:Hp}{s:Shared}(I:Inv X (pins ++pl) σ H s):Inv X pins σ H s:=I.pins_of λp hp=>I.pin p (List.mem_append_right _ (List.mem_append_left _ hp))
theorem zpj{iter:Expr}{body:List Stmt}{wi:TI}{g:TG}{tb:TS}{pos:Pos}(hp:PassesOwn (model X.prog X.w) X.A X.env X.xe)(hc:X.calm=true)(hi:PI X tg iter wi)(hg:PG X tg g)(hb:PSs X body tb)
 (hs:∀x,foldedSetIterable iter X.env x=pure x:=by intro _;rfl):PS X (.For tg iter body [] pos) (zq5 wi g tb):=by
 intro pins s σ H D I h
 refine wpAny_For (thn (hi pins s σ H _ I h) λv s1 h1=>thn h1 λitv s2 h2=>?_) hs
 obtain⟨it,fp,tn,J,H2,e,I2,T,st2,f2,W,⟨m0,w0⟩,turn⟩:=h2
 subst e
 have stat:∀{H':Hp},(∀b∈fp,H' b=none)->∀b∈fp,zex X pins H' b:=λhn b hb=>⟨hn b hb,(f2 b hb).2⟩
 refine codeAny_forLoop_any (λn s'=>∃i σ' H',Inv X pins σ' H' s'/\tn i s'.heap/\(∀b∈fp,H' b=none)/\W i n σ' H') ?_ m0 ⟨0,σ,H2,I2,st2,λb hb=>(f2 b hb).1,w0⟩
 rintro n s3 ⟨i,σ3,H3,I3,st3,fr3,w3⟩
 rcases turn i n σ3 H3 w3 with⟨stop,qn⟩|⟨go,N,hN,step⟩
 ·refine wpAny_passesOwn hp (thn (T.done X rfl rfl rfl hc i pins s3 σ3 H3 X.xe I3 (stat fr3) st3 stop) λr s4 ⟨hr,I4⟩=>?_)
  subst hr
  exact wpAny_execs_nil ⟨σ3,H3,I4,qn⟩
 ·refine wpAny_passesOwn hp (thn (T.item X rfl rfl rfl hc i pins s3 σ3 H3 X.xe I3 (stat fr3) st3 go) λr s4 ⟨u,hr,h4⟩=>?_)
  subst hr
  refine wpAny_passesOwn hp (thn h4 λ_ s5 ⟨x,H5,I5,r5,y5,st5,fr5⟩=>?_)
  have I5':=I5.pinned (stat fr5) (T.obj _ _ st5)
  refine wpAny_passesOwn hp (thn (hg _ s5 σ3 H5 x u _ I5' r5 (step x H5 y5)) λ_ s6 ⟨σ6,H6,I6,q6⟩=>?_)
  refine wpAny_passesOwn hp (thn (hb _ s6 σ6 H6 _ I6 q6) λf s7 q7=>?_)
  have again:∀{σ7:St} {H7:Hp},Inv X (pins ++zeC fp s5.heap) σ7 H7 s7->N σ7 H7->∃m,m<n/\∃i σ' H',Inv X pins σ' H' s7/\tn i s7.heap/\(∀b∈fp,H' b=none)/\W i m σ' H':=λ{σ7 H7} I7 n7=>by
   obtain⟨m',hm,w7⟩:=hN σ7 H7 n7
   refine⟨m',hm,i+1,σ7,H7,I7.unpinned,T.keep _ _ _ st5 λb hb o e=>(I7.pin (b,o) (List.mem_append_right _ (List.mem_append_right _ (zbc hb e)))).1,λb hb=>?_,w7⟩
   obtain⟨o,e,d⟩:=T.obj _ _ st5 b hb
   exact(I7.pin (b,o) (List.mem_append_right _ (List.mem_append_right _ (zbc hb e)))).2.1
  cases f with
  |next=>obtain ⟨σ7,H7,I7,n7⟩:=q7;exact again I7 n7
  |cont=>obtain ⟨σ7,H7,I7,n7⟩:=q7;exact again I7 n7
  |brk=>obtain ⟨σ7,H7,I7,q7⟩:=q7;exact⟨σ7,H7,I7.unpinned,q7⟩
  |ret v=>obtain ⟨x7,σ7,H7,I7,r7,q7⟩:=q7;exact⟨x7,σ7,H7,I7.unpinned,r7,q7⟩
end
noncomputable abbrev R2:=V->V->Hp->VK->Prop
def OpR(X:Cx)(f:Value->Value->Sem Value)(r:R2):Prop:=
 ∀(pins:List (Addr×Obj)) (s:Shared) (σ:St) (H:Hp) (x y:V) (v u:Value) (Q:VK),Inv X pins σ H s->RelV x v->RelV y u->r x y H Q->
  wpAny (model X.prog X.w) X.A (f v u) (EP X pins σ Q) X.xe s
def UnR(X:Cx)(f:Value->Sem Value)(r:V->Hp->VK->Prop):Prop:=
 ∀(pins:List (Addr×Obj)) (s:Shared) (σ:St) (H:Hp) (x:V) (v:Value) (Q:VK),Inv X pins σ H s->RelV x v->r x H Q->
  wpAny (model X.prog X.w) X.A (f v) (EP X pins σ Q) X.xe s
def CallR(X:Cx)(f:Value)(r:List V->Hp->VK->Prop):Prop:=
 ∀(pins:List (Addr×Obj)) (s:Shared) (σ:St) (H:Hp) (xs:List V) (us:List Value) (Q:VK),Inv X pins σ H s->Vals xs us->r xs H Q->
  wpAny (model X.prog X.w) X.A (call f us) (EP X pins σ Q) X.xe s
def zq3(X:Cx)(r:V->Hp->(Bool->Hp->Prop)->Prop):Prop:=
 ∀(pins:List (Addr×Obj)) (s:Shared) (σ:St) (H:Hp) (x:V) (v:Value) (Q:Bool->Hp->Prop),Inv X pins σ H s->RelV x v->r x H Q->
  wpAny (model X.prog X.w) X.A (truthy v) (TP X pins σ Q) X.xe s
noncomputable def tOp(r:R2)(ta tb:TE):TE:=λσ H Q=>ta σ H λx H1=>tb σ H1 λy H2=>r x y H2 Q
def tUn(r:V->Hp->VK->Prop)(ta:TE):TE:=λσ H Q=>ta σ H λx H1=>r x H1 Q
def rI(C:Int->Int->Prop)(g:Int->Int->V):R2:=λx y H Q=>∃i j,x= .int i/\y= .int j/\C i j/\Q (g i j) H
noncomputable def rI0(g:Int->Int->V):R2:=λx y H Q=>∃i j,x= .int i/\y= .int j/\Q (g i j) H
def rU(g:Int->V):V->Hp->VK->Prop:=λx H Q=>∃i,x= .int i/\Q (g i) H
section
variable{X:Cx}{a b c:Expr}{ta tb tc:TE}{pos:Pos}
theorem zpA(ha:PE X a ta)(hb:PE X b tb){pins:List (Addr×Obj)}{s:Shared}{σ:St}{H:Hp}{R:V->V->Hp->Prop}(I:Inv X pins σ H s)
 (h:ta σ H λx H1=>tb σ H1 λy H2=>R x y H2) {Q:Value->Shared->Prop} {f:Value->Value->Sem Value}
 (hf:∀v u s2 x y H2,Inv X pins σ H2 s2->RelV x v->RelV y u->R x y H2->wpAny (model X.prog X.w) X.A (f v u) Q X.xe s2):
 wpAny (model X.prog X.w) X.A (eval a X.env) (λv s₁=>wpAny (model X.prog X.w) X.A (eval b X.env) (λu s₂=>wpAny (model X.prog X.w) X.A (f v u) Q X.xe s₂) X.xe s₁) X.xe s:=by
 refine thn (ha pins s σ H _ I h) λv s1 ⟨x,H1,I1,r1,q1⟩=>?_
 refine thn (hb pins s1 σ H1 _ I1 q1) λu s2 ⟨y,H2,I2,r2,q2⟩=>?_
 exact hf v u s2 x y H2 I2 r1 r2 q2
theorem zqo{op:Operator}{r:R2}(ho:OpR X (binaryOp op) r)(ha:PE X a ta)(hb:PE X b tb):PE X (.BinOp a op b pos) (tOp r ta tb):=by
 intro pins s σ H Q I h
 exact wpAny_BinOp (zpA ha hb I h λv u s2 x y H2 I2 rx ry q=>ho pins s2 σ H2 x y v u Q I2 rx ry q)
theorem zqi{op:UnaryOp}{r:V->Hp->VK->Prop}(ho:UnR X (unaryOp op) r)(ha:PE X a ta):PE X (.UnaryOp op a pos) (tUn r ta):=by
 intro pins s σ H Q I h
 exact UnaryOp_ (thn (ha pins s σ H _ I h) λv s1 ⟨x,H1,I1,r1,q1⟩=>ho pins s1 σ H1 x v Q I1 r1 q1)
theorem opI{f:Value->Value->Sem Value}{C:Int->Int->Prop}{g:Int->Int->Int}
 (rule:∀(i j:Int) (t u:Tok) (s:Shared) (Q:Value->Shared->Prop) (E:Value->Shared->Prop),C i j->Q (.int (g i j) s.toks) {s with toks:=s.toks+1}->wpAny (model X.prog X.w) X.A (f (.int i t) (.int j u)) Q E s):
 OpR X f (rI C λi j=> .int (g i j)):=by
 intro pins s σ H x y v u Q I rx ry h
 obtain⟨i,j,rfl,rfl,hc,q⟩:=h
 obtain⟨t,rfl⟩:=rx
 obtain⟨t',rfl⟩:=ry
 exact rule i j t t' s _ _ hc ⟨.int (g i j),H,I.tok _,⟨_,rfl⟩,q⟩
theorem zp8{f:Value->Value->Sem Value}{g:Int->Int->Int}
 (rule:∀(i j:Int) (t u:Tok) (s:Shared) (Q:Value->Shared->Prop) (E:Value->Shared->Prop),Q (.int (g i j) s.toks) {s with toks:=s.toks+1}->wpAny (model X.prog X.w) X.A (f (.int i t) (.int j u)) Q E s):
 OpR X f (rI0 λi j=> .int (g i j)):=by
 intro pins s σ H x y v u Q I rx ry h
 obtain⟨i,j,rfl,rfl,q⟩:=h
 obtain⟨t,rfl⟩:=rx
 obtain⟨t',rfl⟩:=ry
 exact rule i j t t' s _ _ ⟨.int (g i j),H,I.tok _,⟨_,rfl⟩,q⟩
theorem znL{f:Value->Value->Sem Value}{g:Int->Int->Bool}
 (rule:∀(i j:Int) (t u:Tok) (s:Shared) (Q:Value->Shared->Prop) (E:Value->Shared->Prop),Q (.bool (g i j)) s->wpAny (model X.prog X.w) X.A (f (.int i t) (.int j u)) Q E s):
 OpR X f (rI0 λi j=> .bl (g i j)):=by
 intro pins s σ H x y v u Q I rx ry h
 obtain⟨i,j,rfl,rfl,q⟩:=h
 obtain⟨t,rfl⟩:=rx
 obtain⟨t',rfl⟩:=ry
 exact rule i j t t' s _ _ ⟨.bl (g i j),H,I,rfl,q⟩
def zqY(i j:Int):Prop:=0<j/\j<1073741824
def zpr(i j:Int):Prop:=0<=j/\j<=1000000/\i.natAbs<2^64
def CMul(i j:Int):Prop:=(-(2^64)<i/\i<2^64)\/(-(2^64)<j/\j<2^64)
theorem CMul.ok{i j:Int}(h:CMul i j):IntMulOk i j:=by
 rcases h with⟨h1,h2⟩|⟨h1,h2⟩
 ·exact .of_left (intBits_le_64 h1 h2)
 ·exact .of_right (intBits_le_64 h1 h2)
theorem zjl(k:Nat):(0:Int)<=2^k:=by
 rw[two_pow_cast]
 exact Int.natCast_nonneg _
theorem zY:OpR X (binaryOp .Add) (rI0 λi j=> .int (i+j)):=zp8 λ_ _ _ _ _ _ _ q=>add_int q
theorem zpw:OpR X (binaryOp .Sub) (rI0 λi j=> .int (i -j)):=zp8 λ_ _ _ _ _ _ _ q=>sub_int q
theorem za8:OpR X (binaryOp .Mult) (rI CMul λi j=> .int (i*j)):=opI λ_ _ _ _ _ _ _ hc q=>mul_int q hc.ok
theorem zhI:OpR X (binaryOp .FloorDiv) (rI zqY λi j=> .int (i/j)):=opI λi j _ _ _ _ _ hc q=>by
 have h1:(0:Int)<j:=hc.1
 have h2:j<1073741824:=hc.2
 exact floordiv_int (by omega) (by rw[Int.fdiv_eq_ediv_of_nonneg i (by omega)];exact q) (.inl (PyProof.noPylong_small (by omega)))
theorem zb2:OpR X (binaryOp .Mod) (rI (λ_ j=>0<j) λi j=> .int (i%j)):=opI λi j _ _ _ _ _ hc q=>by
 have h1:(0:Int)<j:=hc
 exact mod_int' (by omega) (by rw[Int.fmod_eq_emod_of_nonneg i (by omega)];exact q)
theorem zeB:OpR X (binaryOp .Pow) (rI zpr λi j=> .int (i^j.toNat)):=opI λ_ _ _ _ _ _ _ hc q=>pow_int_small hc.1 hc.2.1 hc.2.2 q
theorem unI{f:Value->Sem Value}{g:Int->Int}
 (rule:∀(i:Int) (t:Tok) (s:Shared) (Q:Value->Shared->Prop) (E:Value->Shared->Prop),Q (.int (g i) s.toks) {s with toks:=s.toks+1}->wpAny (model X.prog X.w) X.A (f (.int i t)) Q E s):
 UnR X f (rU λi=> .int (g i)):=by
 intro pins s σ H x v Q I rx h
 obtain⟨i,rfl,q⟩:=h
 obtain⟨t,rfl⟩:=rx
 exact rule i t s _ _ ⟨.int (g i),H,I.tok _,⟨_,rfl⟩,q⟩
theorem zc2:UnR X (unaryOp .USub) (rU λi=> .int (-i)):=unI λ_ _ _ _ _ q=>neg_int q
end
noncomputable def zp3:V->V->Bool
 | .non, .non=>true| .non, .int _=>true| .int _, .non=>true| .non, .bl _=>true| .bl _, .non=>true| .non, .str _=>true| .str _, .non=>true
 | .int _, .int _=>true| .bl _, .bl _=>true| .str _, .str _=>true| .byt _, .byt _=>true
 | .int _, .str _=>true| .str _, .int _=>true| .bl _, .str _=>true| .str _, .bl _=>true
 |_,_=>false
noncomputable def rEq:R2:=λx y H Q=>zp3 x y=true/\Q (.bl (decide (x=y))) H
noncomputable def rNe:R2:=λx y H Q=>zp3 x y=true/\Q (.bl (!decide (x=y))) H
theorem zkx{i j:Int}:decide (V.int i=V.int j)=(i==j):=by
 rw[Bool.eq_iff_iff]
 simp
theorem zlz{i j:Bool}:decide (V.bl i=V.bl j)=(i==j):=by
 rw[Bool.eq_iff_iff]
 simp
theorem zj1{i j:Str}:decide (V.str i=V.str j)=(i==j):=by
 rw[Bool.eq_iff_iff]
 simp
theorem zj7{i j:Array UInt8}:decide (V.byt i=V.byt j)=(i.toList==j.toList):=by
 rw[Bool.eq_iff_iff]
 cases i
 cases j
 simp
section
variable{X:Cx}{a b c:Expr}{ta tb tc:TE}{pos:Pos}
theorem zK{pins:List (Addr×Obj)}{σ:St}{H:Hp}{s:Shared}{Q:VK}{k k':Bool}(I:Inv X pins σ H s)(q:Q (.bl k) H)(e:k=k'):EP X pins σ Q (.bool k') s:=by
 subst e
 exact⟨.bl k,H,I,rfl,q⟩
theorem zaO:OpR X (compareOp .Eq) rEq:=by
 intro pins s σ H x y v u Q I rx ry h
 obtain⟨hs,q⟩:=h
 cases x with
 |non=>
  cases rx
  cases y with
  |non=>cases ry;exact PySem.EqNone.eq_none_none (zK I q (by simp))
  |bl j=>cases ry;exact PySem.EqNone.eq_none_bool (zK I q (by simp))
  |int j=>obtain ⟨t',rfl⟩:=ry;exact PySem.EqNone.eq_none_int (zK I q (by simp))
  |str j=>obtain ⟨t',rfl⟩:=ry;exact PySem.EqNone.eq_none_str (zK I q (by simp))
  |_=>exact absurd (show false=true from hs) Bool.false_ne_true
 |bl i=>
  cases rx
  cases y with
  |non=>cases ry;exact PySem.EqNone.eq_bool_none (zK I q (by simp))
  |bl j=>cases ry;exact eq_bool (zK I q zlz)
  |str j=>obtain ⟨t',rfl⟩:=ry;exact PySem.EqMixed.eq_bool_str (zK I q (by simp))
  |_=>exact absurd (show false=true from hs) Bool.false_ne_true
 |int i=>
  obtain⟨t,rfl⟩:=rx
  cases y with
  |non=>cases ry;exact PySem.EqNone.eq_int_none (zK I q (by simp))
  |int j=>obtain ⟨t',rfl⟩:=ry;exact eq_int (zK I q zkx)
  |str j=>obtain ⟨t',rfl⟩:=ry;exact PySem.EqMixed.eq_int_str (zK I q (by simp))
  |_=>exact absurd (show false=true from hs) Bool.false_ne_true
 |str i=>
  obtain⟨t,rfl⟩:=rx
  cases y with
  |non=>cases ry;exact PySem.EqNone.eq_str_none (zK I q (by simp))
  |bl j=>cases ry;exact PySem.EqMixed.eq_str_bool (zK I q (by simp))
  |int j=>obtain ⟨t',rfl⟩:=ry;exact PySem.EqMixed.eq_str_int (zK I q (by simp))
  |str j=>obtain ⟨t',rfl⟩:=ry;exact eq_str (zK I q zj1)
  |_=>exact absurd (show false=true from hs) Bool.false_ne_true
 |byt i=>
  obtain⟨t,rfl⟩:=rx
  cases y with
  |byt j=>obtain ⟨t',rfl⟩:=ry;exact PySem.W.eq_bytes (zK I q zj7)
  |_=>exact absurd (show false=true from hs) Bool.false_ne_true
 |_=>cases y<;>exact absurd (show false=true from hs) Bool.false_ne_true
theorem zib:OpR X (compareOp .NotEq) rNe:=by
 intro pins s σ H x y v u Q I rx ry h
 obtain⟨hs,q⟩:=h
 cases x with
 |non=>
  cases rx
  cases y with
  |non=>cases ry;exact PySem.EqNone.ne_none_none (zK I q (by simp))
  |bl j=>cases ry;exact PySem.EqNone.ne_none_bool (zK I q (by simp))
  |int j=>obtain ⟨t',rfl⟩:=ry;exact PySem.EqNone.ne_none_int (zK I q (by simp))
  |str j=>obtain ⟨t',rfl⟩:=ry;exact PySem.EqNone.ne_none_str (zK I q (by simp))
  |_=>exact absurd (show false=true from hs) Bool.false_ne_true
 |bl i=>
  cases rx
  cases y with
  |non=>cases ry;exact PySem.EqNone.ne_bool_none (zK I q (by simp))
  |bl j=>cases ry;exact ne_bool (zK I q (congrArg not zlz))
  |str j=>obtain ⟨t',rfl⟩:=ry;exact PySem.EqMixed.ne_bool_str (zK I q (by simp))
  |_=>exact absurd (show false=true from hs) Bool.false_ne_true
 |int i=>
  obtain⟨t,rfl⟩:=rx
  cases y with
  |non=>cases ry;exact PySem.EqNone.ne_int_none (zK I q (by simp))
  |int j=>obtain ⟨t',rfl⟩:=ry;exact ne_int (zK I q (congrArg not zkx))
  |str j=>obtain ⟨t',rfl⟩:=ry;exact PySem.EqMixed.ne_int_str (zK I q (by simp))
  |_=>exact absurd (show false=true from hs) Bool.false_ne_true
 |str i=>
  obtain⟨t,rfl⟩:=rx
  cases y with
  |non=>cases ry;exact PySem.EqNone.ne_str_none (zK I q (by simp))
  |bl j=>cases ry;exact PySem.EqMixed.ne_str_bool (zK I q (by simp))
  |int j=>obtain ⟨t',rfl⟩:=ry;exact PySem.EqMixed.ne_str_int (zK I q (by simp))
  |str j=>obtain ⟨t',rfl⟩:=ry;exact ne_str (zK I q (congrArg not zj1))
  |_=>exact absurd (show false=true from hs) Bool.false_ne_true
 |byt i=>
  obtain⟨t,rfl⟩:=rx
  cases y with
  |byt j=>obtain ⟨t',rfl⟩:=ry;exact PySem.W.ne_bytes (zK I q (congrArg not zj7))
  |_=>exact absurd (show false=true from hs) Bool.false_ne_true
 |_=>cases y<;>exact absurd (show false=true from hs) Bool.false_ne_true
theorem zqE:OpR X (compareOp .Lt) (rI0 λi j=> .bl (decide (i<j))):=znL λ_ _ _ _ _ _ _ q=>lt_int q
theorem zoP:OpR X (compareOp .LtE) (rI0 λi j=> .bl (decide (i<=j))):=znL λ_ _ _ _ _ _ _ q=>le_int q
theorem zjQ:OpR X (compareOp .Gt) (rI0 λi j=> .bl (decide (j<i))):=znL λ_ _ _ _ _ _ _ q=>gt_int q
theorem zoU:OpR X (compareOp .GtE) (rI0 λi j=> .bl (decide (j<=i))):=znL λ_ _ _ _ _ _ _ q=>ge_int q
theorem zdH:OpR X (compareOp .Is) (λx y H Q=>y= .non/\Q (.bl (decide (x= .non))) H):=by
 intro pins s σ H x y v u Q I rx ry h
 obtain⟨rfl,q⟩:=h
 cases ry
 refine is_none_gen (zK I q ?_)
 cases x<;>first
  |(cases rx;rfl)
  |(obtain⟨t,rfl⟩:=rx;rfl)
theorem zdu:OpR X (compareOp .IsNot) (λx y H Q=>y= .non/\Q (.bl (!decide (x= .non))) H):=by
 intro pins s σ H x y v u Q I rx ry h
 obtain⟨rfl,q⟩:=h
 cases ry
 refine isnot_none_gen (zK I q ?_)
 cases x<;>first
  |(cases rx;rfl)
  |(obtain⟨t,rfl⟩:=rx;rfl)
theorem znX{op:CmpOp}{r:R2}(ho:OpR X (compareOp op) r)(ha:PE X a ta)(hb:PE X b tb)(hm:behindInMarks op b=false):PE X (.Compare a [op] [b] pos) (tOp r ta tb):=by
 intro pins s σ H Q I h
 exact wpAny_Compare1 (zpA ha hb I h λv u s2 x y H2 I2 rx ry q=>ho pins s2 σ H2 x y v u Q I2 rx ry q) hm
noncomputable def zoC(t:TE):TT:=λσ H Q=>t σ H λx H'=>∃k,x= .bl k/\Q k H'
theorem znp{op:CmpOp}{r:R2}(ho:OpR X (compareOp op) r)(ha:PE X a ta)(hb:PE X b tb)(hm:behindInMarks op b=false):PT X (.Compare a [op] [b] pos) (zoC (tOp r ta tb)):=by
 intro pins s σ H Q I h
 refine wpAny_isTrue_Compare1 (thn (ha pins s σ H _ I h) λv s1 ⟨x,H1,I1,r1,q1⟩=>thn (hb pins s1 σ H1 _ I1 q1) λu s2 ⟨y,H2,I2,r2,q2⟩=>
  thn (ho pins s2 σ H2 x y v u _ I2 r1 r2 q2) λc s3 ⟨z,H3,I3,r3,k,e,q3⟩=>?_) hm
 subst e
 cases r3
 exact wpAny_truthy_bool ⟨H3,I3,q3⟩
def zpo(K:PySem.W.Frag)(x:V)(H:Hp)(k:Bool):Prop:=
 match x with
 | .non=>k=false
 | .bl b=>k=b
 | .int i=>k=(i !=0)
 | .str y=>y.length<=sizeLine/\k=((y.length:Int) !=0)
 | .byt y=>y.size<=sizeLine/\k=((y.size:Int) !=0)
 | .ref p=>(∃xs,SqL K H p xs/\k=!xs.isEmpty)\/(∃xs,SqT K H p xs/\k=!xs.isEmpty)\/∃kvs,H p=some (.dK kvs)/\k=!kvs.isEmpty
 |_=>False
theorem zjj{κ:Type}{kvs:List (κ×V)}{vs:List (κ×Value)}(r:KV kvs vs):(!vs.isEmpty)=!kvs.isEmpty:=by
 cases r<;>rfl
theorem zf0{xs:List V}{its:List Value}(r:Vals xs its):(!its.toArray.isEmpty)=!xs.isEmpty:=by
 cases r<;>simp
theorem zdM:(sizeLine:Nat)<2^63:=by rw[sizeLine_eq];decide
theorem zpD:zq3 X (λx H Q=>∃k,zpo X.K x H k/\Q k H):=by
 intro pins s σ H x v Q I rx h
 obtain⟨k,e,q⟩:=h
 have hl:=zdM
 have hs:sizeLine=16777216:=sizeLine_eq
 cases x with
 |non=>
  cases rx
  have e':k=false:=e
  subst e'
  exact truthy_none ⟨H,I,q⟩
 |bl b=>
  cases rx
  have e':k=b:=e
  subst e'
  exact wpAny_truthy_bool ⟨H,I,q⟩
 |int i=>
  obtain⟨t,rfl⟩:=rx
  have e':k=(i !=0):=e
  subst e'
  exact PySem.P.truthy_int ⟨H,I,q⟩
 |str y=>
  obtain⟨t,rfl⟩:=rx
  obtain⟨hy,e'⟩:y.length<=sizeLine/\k=((y.length:Int) !=0):=e
  subst e'
  exact PySem.P.truthy_str (by omega) ⟨H,I.tok _,q⟩
 |byt y=>
  obtain⟨t,rfl⟩:=rx
  obtain⟨hy,e'⟩:y.size<=sizeLine/\k=((y.size:Int) !=0):=e
  subst e'
  exact PySem.W.truthy_bytes (by omega) ⟨H,I.tok _,q⟩
 |ref p=>
  cases rx
  have e':(∃xs,SqL X.K H p xs/\k=!xs.isEmpty)\/(∃xs,SqT X.K H p xs/\k=!xs.isEmpty)\/∃kvs,H p=some (.dK kvs)/\k=!kvs.isEmpty:=e
  rcases e' with⟨xs,hx,e'⟩|⟨xs,hx,e'⟩|⟨kvs,hx,e'⟩
  ·subst e'
   obtain⟨its,r,pl,hz⟩:=I.list hx
   have hlen:=r.length
   exact wpAny_truthy_list pl.isList (by simp only[List.size_toArray];omega) ⟨H,I.tok _,by rw[zf0 r];exact q⟩
  ·subst e'
   obtain⟨its,r,pl,hz⟩:=I.tuple hx
   have hlen:=r.length
   exact truthy_tuple pl (by simp only[List.size_toArray];omega) ⟨H,I.tok _,by rw[zf0 r];exact q⟩
  ·subst e'
   obtain⟨hz,hS,vs,r,m⟩:kvs.length<=sizeLine/\(p==sysModules)=false/\∃vs,KV kvs vs/\s.heap.DictOf (zU X.prog X.w) p vs:=I.hok p _ hx
   have hlen:kvs.length=vs.length:=Paired.length r
   exact wpAny_truthy_dict hS m (by omega) ⟨H,I.tok _,by rw[zjj r];exact q⟩
 |_=>exact (show False from e).elim
theorem zmf(ha:PE X a ta)(he:∀whole,isTrue a X.env whole=(do let v ←whole;standAt a.pos;holding [v] (truthy v))):
 PT X a (λσ H Q=>ta σ H λx H'=>∃k,zpo X.K x H' k/\Q k H'):=by
 intro pins s σ H Q I h
 exact isTrue_plain (thn (ha pins s σ H _ I h) λv s1 ⟨x,H1,I1,r1,q1⟩=>zpD pins s1 σ H1 x v Q I1 r1 q1) (he _)
theorem zc8{x:V}{us:List Value}(r:Vals [x] us):∃u,us=[u]/\RelV x u:=by
 cases r with
 |cons r1 r2=>cases r2;exact⟨_,rfl,r1⟩
theorem zgN{x y:V}{us:List Value}(r:Vals [x,y] us):∃u w',us=[u,w']/\RelV x u/\RelV y w':=by
 cases r with
 |cons r1 r2=>
  cases r2 with
  |cons r3 r4=>cases r4;exact⟨_,_,rfl,r1,r3⟩
theorem zgR(hc:X.calm=true):CallR X (.builtin "max") (λxs H Q=>∃i j,xs=[.int i, .int j]/\Q (.int (if j>i then j else i)) H):=by
 intro pins s σ H xs us Q I r h
 obtain⟨i,j,rfl,q⟩:=h
 obtain⟨u,w',rfl,⟨t,rfl⟩,⟨t',rfl⟩⟩:=zgN r
 refine max_two_ints (I.ok.hd hc) λh' tk k=>⟨_,H,I.kept k,?_,q⟩
 by_cases hj:j>i
 ·rw[if_pos hj,if_pos hj];exact⟨_,rfl⟩
 ·rw[if_neg hj,if_neg hj];exact⟨_,rfl⟩
theorem zet(hc:X.calm=true):CallR X (.builtin "min") (λxs H Q=>∃i j,xs=[.int i, .int j]/\Q (.int (if j<i then j else i)) H):=by
 intro pins s σ H xs us Q I r h
 obtain⟨i,j,rfl,q⟩:=h
 obtain⟨u,w',rfl,⟨t,rfl⟩,⟨t',rfl⟩⟩:=zgN r
 refine min_two_ints (I.ok.hd hc) λh' tk k=>⟨_,H,I.kept k,?_,q⟩
 by_cases hj:j<i
 ·rw[if_pos hj,if_pos hj];exact⟨_,rfl⟩
 ·rw[if_neg hj,if_neg hj];exact⟨_,rfl⟩
theorem zcR:CallR X (.type "int") (λxs H Q=>(∃i,xs=[.int i]/\Q (.int i) H)\/∃k,xs=[.bl k]/\Q (.int (if k then 1 else 0)) H):=by
 intro pins s σ H xs us Q I r h
 rcases h with⟨i,rfl,q⟩|⟨k,rfl,q⟩
 ·obtain ⟨u,rfl,t,rfl⟩:=zc8 r
  exact call_int_int ⟨.int i,H,I,⟨_,rfl⟩,q⟩
 ·obtain ⟨u,rfl,r1⟩:=zc8 r
  cases r1
  exact call_int_bool ⟨.int (if k then 1 else 0),H,I.tok _,⟨_,rfl⟩,q⟩
end
structure ObjM(h:Heap)(x dx C:Addr)(mA:Str->Option Value):Prop where
 obj:h.get? x=some (PySem.W.instObj C dx)
 ns:h.Ns1 dx mA
 ne:dx≠x
theorem zkM{h:Heap}{dx:Addr}{mA:Str->Option Value}(n:h.Ns1 dx mA):∃od,h.get? dx=some od/\∀name,PySem.W.lookIn name od=some (mA name):=by
 obtain⟨o,es,ep,ho,hd,hk,_,hm⟩:=n
 refine⟨o,ho,λname=>?_⟩
 have e:=hm name
 unfold nsFind findBy at e
 rw[←Array.find?_toList] at e
 unfold PySem.W.lookIn
 rw[hd]
 dsimp only
 split
 ·rename_i y q
  rw[q] at e
  exact congrArg some e
 ·rename_i q
  rw[q] at e
  have a:es.toList.any (·.refKey)=false:=by
   rw[List.any_eq_false]
   intro y hy
   obtain⟨z,t,hkey⟩:=hk y (Array.mem_toList_iff.mp hy)
   simp[DictEntry.refKey,hkey]
  have a':¬es.toList.any (·.refKey)=true:=by rw[a];exact Bool.false_ne_true
  rw[if_neg a']
  exact congrArg some e
theorem ObjM.look{h:Heap}{x dx C:Addr}{mA:Str->Option Value}(I:ObjM h x dx C mA):∃od,PySem.W.InstAt h x (PySem.W.instObj C dx) C (some od)/\∀name,PySem.W.lookIn name od=some (mA name):=
 let⟨od,ho,hl⟩:=zkM I.ns
 ⟨od,⟨I.obj,rfl,rfl,ho⟩,hl⟩
section
variable{prog:Program}{w:World}{A:Around}{E:Value->Shared->Prop}{s:Shared}{K:PySem.W.Frag}{x dx C f:Addr}{mA:Str->Option Value}{name:Str}{v:Value}
theorem zn6{expr:Bool}{Q:Value->Shared->Prop}(X:K.In s.heap)(I:ObjM s.heap x dx C mA)(hg:PySem.W.plainGet K C name=true)(hh:PySem.W.hasDictIn K C=true)
 (ha:PySem.W.findIn K (.ref C) name=some none) (hv:mA name=some v) (hv':PySem.W.handedIn v=true) (h:Q v {s with toks:=s.toks+1}):
 wpAny (model prog w) A (getAttr (.ref x) name expr) Q E s:=by
 obtain⟨od,J,hl⟩:=I.look
 exact PySem.W.get_value X J (PySem.W.plainGet_of hg).1 (PySem.W.findObj_own hh ha rfl (by rw[hl,hv])) hv' h
theorem zmw{pl:Sem Bool}{Q:Value×List Value->Shared->Prop}(X:K.In s.heap)(I:ObjM s.heap x dx C mA)(hg:PySem.W.plainGet K C name=true)
 (hf:PySem.W.findIn K (.ref C) name=some (some (.ref f))) (ht:PySem.W.isFn K (.ref f)=true) (hv:mA name=none) (h:Q (.ref f,[.ref x]) s):
 wpAny (model prog w) A (getMethod (.ref x) name pl) Q E s:=by
 obtain⟨od,J,hl⟩:=I.look
 exact PySem.W.method_fn X J (PySem.W.plainGet_of hg).1 (PySem.W.plainGet_of hg).2 hf (beq_iff_eq.mp ht) (by show(PySem.W.lookIn name od).map (·.isSome)=some false;rw[hl,hv];rfl) h
theorem zol{ns:List Str}{Q:Unit->Shared->Prop}(X:K.In s.heap)(I:ObjM s.heap x dx C mA)
 (hs:PySem.W.findIn K (.ref C) "__setattr__"=some (some (.builtin "object.__setattr__"))) (hp:PySem.W.plainOver K C=true) (ht:PySem.W.takerIn K C name=some none) (hh:PySem.W.hasDictIn K C=true)
 (hw:PySem.Within mA ns) (hsz:ns.length<=sizeLine)
 (h:∀h',ObjM h' x dx C (λy=>if y=name then some v else mA y)->Heap.SameBut dx s.heap h'->Q () {s with heap:=h',toks:=s.toks+2}):
 wpAny (model prog w) A (setAttr (.ref x) name v) Q E s:=by
 obtain⟨od,J,hl⟩:=I.look
 refine PySem.W.set_plain X J hs (PySem.W.osa_open (s:={s with toks:=s.toks+1}) (r:=none) X J hp ht λb=>?_)
 obtain⟨cd,hc,hd'⟩:=PySem.W.any_some hh
 have hx:s.heap.get? x=some ⟨.ref C,some dx, .plain, #[]⟩:=I.obj
 refine wpAny_bind (wpAny_pure (wpAny_bind (wpAny_bind (wpAny_loadPart hx (wpAny_bind (PySem.W.Looks.here (s:={s with toks:=s.toks+1}) (PySem.W.looks_clsIn X hc) ?_))))))
 rw[hd']
 refine wpAny_pure (a:=some dx) (wpAny_bind (wpAny_pure (wpAny_bind ?_)))
 refine wpAny_nsSet1 (s:={s with toks:=s.toks+1}) I.ns λh' hn2 hs2=>?_
 obtain⟨oD,esD,epD,hoD,hdD,hcD⟩:=hn2.count (PySem.Within.cons name v hw)
 refine wpAny_bind (wpAny_lookBehind hoD (by rw[hdD];exact pastItsLine_dict (Nat.le_trans hcD (by rw[List.length_cons];omega))) ?_)
 exact wpAny_pure (h _ ⟨(hs2.2 _ (Ne.symm I.ne)).trans I.obj,hn2,I.ne⟩ hs2)
theorem zmL{R:Result->Shared->Prop}{vs:List Value}{kw:List (Str×Value)}(X:K.In s.heap)(hm:PySem.W.makesIn K C=true)
 (hi:PySem.W.findIn K (.ref C) "__init__"=some (some (.ref f))) (hf:PySem.W.typeIn K (.ref f)=some (.type "function"))
 (h:codeAny (model prog w) (A.under (.builtin "type.__call__" ⟨.ref C::vs,kw⟩)) (.call (.ref f) ⟨.ref (s.heap.objs.size+1)::vs,kw⟩) (PySem.W.InitBack (s.heap.objs.size+1) R)
   {s with heap:=(s.heap.push PySem.W.emptyDict).push (PySem.W.instObj C s.heap.objs.size)}):
 codeAny (model prog w) A (.call (.ref C) ⟨vs,kw⟩) R s:=by
 obtain⟨hh,g,d,t,os⟩:=s
 exact PySem.W.make_core (PySem.W.makes_of X hm) (PySem.W.looks_findIn X hi) (λself=>PySem.W.bind_fn X self hf) (.inl rfl) h
end
noncomputable def za7(f:Str)(v:V):List (Str×V)->List (Str×V)
 |[]=> [(f,v)]
 |(g,x)::r=>if g=f then(g,v)::r else(g,x)::za7 f v r
theorem zeQ(f g:Str)(v:V):∀fs:List (Str×V),(za7 f v fs).lookup g=if g=f then some v else fs.lookup g
 |[]=>by
  show List.lookup g [(f,v)]=_
  by_cases h:g=f
  ·have hb:(g==f)=true:=beq_iff_eq.mpr h
   simp only[List.lookup,hb,if_pos h]
  ·have hb:(g==f)=false:=beq_eq_false_iff_ne.mpr h
   simp only[List.lookup,hb,if_neg h]
 |(k,x)::r=>by
  have ih:=zeQ f g v r
  rw[show za7 f v ((k,x)::r)=(if k=f then(k,v)::r else(k,x)::za7 f v r)from rfl]
  by_cases hk:k=f
  ·rw[if_pos hk]
   by_cases h:g=k
   ·have hb:(g==k)=true:=beq_iff_eq.mpr h
    simp only[List.lookup,hb,if_pos (h.trans hk)]
   ·have hb:(g==k)=false:=beq_eq_false_iff_ne.mpr h
    simp only[List.lookup,hb,if_neg (λe:g=f=>h (e.trans hk.symm))]
  ·rw[if_neg hk]
   by_cases h:g=k
   ·have hb:(g==k)=true:=beq_iff_eq.mpr h
    simp only[List.lookup,hb,if_neg (λe:g=f=>hk (h.symm.trans e))]
   ·have hb:(g==k)=false:=beq_eq_false_iff_ne.mpr h
    simp only[List.lookup,hb]
    exact ih
theorem zeA(f:Str)(v:V):∀fs:List (Str×V),f∈(za7 f v fs).map (·.1)/\∀g,g∈fs.map (·.1)->g∈(za7 f v fs).map (·.1)
 |[]=>⟨by simp[za7],λg h=>by simp at h⟩
 |(k,x)::r=>by
  obtain⟨i1,i2⟩:=zeA f v r
  rw[show za7 f v ((k,x)::r)=(if k=f then(k,v)::r else(k,x)::za7 f v r)from rfl]
  by_cases hk:k=f
  ·rw[if_pos hk]
   subst hk
   exact⟨by simp,λg h=>by simpa using h⟩
  ·rw[if_neg hk]
   refine⟨?_,λg h=>?_⟩
   ·rw[List.map_cons]
    exact List.mem_cons_of_mem _ i1
   ·rw[List.map_cons] at h⊢
    rcases List.mem_cons.mp h with e|e
    ·exact List.mem_cons.mpr (.inl e)
    ·exact List.mem_cons_of_mem _ (i2 g e)
theorem zeM(f:Str)(v:V):∀fs:List (Str×V),(za7 f v fs).length<=fs.length+1
 |[]=>by simp[za7]
 |(k,x)::r=>by
  have ih:=zeM f v r
  rw[show za7 f v ((k,x)::r)=(if k=f then(k,v)::r else(k,x)::za7 f v r)from rfl]
  by_cases hk:k=f
  ·rw[if_pos hk,List.length_cons,List.length_cons];omega
  ·rw[if_neg hk,List.length_cons,List.length_cons];omega
theorem RelO.some_of{v:V}{o:Option Value}(r:RelO (some v) o):∃u,o=some u/\RelV v u:=by
 cases o with
 |none=>exact (show False from r).elim
 |some u=>exact ⟨u,rfl,r⟩
theorem RelO.none_of{o:Option Value}(r:RelO none o):o=none:=by
 cases o with
 |none=>rfl
 |some u=>exact (show False from r).elim
theorem zkO{v:V}{u:Value}(r:RelV v u):PySem.W.handedIn u=true:=by
 cases v with
 |non=>cases (show u=Value.none from r);rfl
 |bl b=>cases (show u=Value.bool b from r);rfl
 |int i=>obtain ⟨t,e⟩:=(show∃t,u=Value.int i t from r);cases e;rfl
 |str x=>obtain ⟨t,e⟩:=(show∃t,u=Value.str x t from r);cases e;rfl
 |byt b=>obtain ⟨t,e⟩:=(show∃t,u=Value.bytes b t from r);cases e;rfl
 |flt b=>obtain ⟨t,e⟩:=(show∃t,u=Value.float b t from r);cases e;rfl
 |ref a=>cases (show u=Value.ref a from r);rfl
 |ty n=>cases (show u=Value.type n from r);rfl
section
variable{P:Program}{w:World}{H H':Hp}{h h':Heap}{a C dx:Addr}{fs fs':List (Str×V)}
theorem zfa(hok:HOk P w H h)(e:H a=some (.ins C dx fs)):∃mA,ObjM h a dx C mA/\(∀f,RelO (fs.lookup f) (mA f))/\PySem.Within mA (fs.map (·.1))/\fs.length<=1000/\H dx=some (.own a):=by
 obtain⟨d,z,ne,ob,mA,n,r,q⟩:=(show ObjOk P w H h a (.ins C dx fs)from hok a _ e)
 exact⟨mA,⟨ob,n,ne⟩,r,q,z,d⟩
end
structure Cls(K:PySem.W.Frag)(C:Addr):Prop where
 pg:PySem.W.plainGet K C Str.empty=true
 hd:PySem.W.hasDictIn K C=true
 po:PySem.W.plainOver K C=true
 sa:PySem.W.findIn K (.ref C) "__setattr__"=some (some (.builtin "object.__setattr__"))
theorem Cls.get{K:PySem.W.Frag}{C:Addr}(c:Cls K C)(f:Str):PySem.W.plainGet K C f=true:=c.pg
def NoAttr(K:PySem.W.Frag)(C:Addr)(f:Str):Prop:=PySem.W.findIn K (.ref C) f=some none
theorem NoAttr.taker{K:PySem.W.Frag}{C:Addr}{f:Str}(n:NoAttr K C f):PySem.W.takerIn K C f=some none:=by
 unfold PySem.W.takerIn
 rw[show PySem.W.findIn K (.ref C) f=some none from n]
 rfl
structure Con(K:PySem.W.Frag)(C:Addr)(f:Str)(v:V)(u:Value):Prop where
 at_:PySem.W.findIn K (.ref C) f=some (some u)
 rel:RelV v u
 get:PySem.W.specialIn K u "__get__"=some none
 cp:PySem.W.copiedNames.contains f=false
structure Meth(K:PySem.W.Frag)(C:Addr)(m:Str)(f:Addr):Prop where
 at_:PySem.W.findIn K (.ref C) m=some (some (.ref f))
 fn:PySem.W.isFn K (.ref f)=true
 kp:PySem.W.keepIn K (.ref f)=true
section
variable{X:Cx}{pins:List (Addr×Obj)}{σ:St}{H:Hp}{s:Shared}{a C dx:Addr}{fs:List (Str×V)}{f:Str}{v:V}{A:Around}{E:Value->Shared->Prop}
theorem zfi{b:Bool}{Q:Value->Shared->Prop}(I:Inv X pins σ H s)(e:H a=some (.ins C dx fs))(c:Cls X.K C)(n:NoAttr X.K C f)(l:fs.lookup f=some v)
 (h:∀u s',Inv X pins σ H s'->RelV v u->Q u s'):wpAny (model X.prog X.w) A (getAttr (.ref a) f b) Q E s:=by
 obtain⟨mA,O,r,_,_,_⟩:=zfa I.hok e
 obtain⟨u,hu,ru⟩:=RelO.some_of (v:=v) (o:=mA f) (by rw[←l];exact r f)
 exact zn6 I.kIn O (c.get f) c.hd n hu (zkO ru) (h u _ (I.tok _) ru)
theorem zdK{m:Str}{g:Addr}{pl:Sem Bool}{Q:Value×List Value->Shared->Prop}(I:Inv X pins σ H s)(e:H a=some (.ins C dx fs))(c:Cls X.K C)(k:Meth X.K C m g)(l:fs.lookup m=none)
 (h:Q (.ref g,[.ref a]) s):wpAny (model X.prog X.w) A (getMethod (.ref a) m pl) Q E s:=by
 obtain⟨mA,O,r,_,_,_⟩:=zfa I.hok e
 have hn:mA m=none:=RelO.none_of (by rw[←l];exact r m)
 exact zmw I.kIn O (c.get m) k.at_ k.fn hn h
theorem zfT{y:V}{u:Value}{Q:Unit->Shared->Prop}(I:Inv X pins σ H s)(e:H a=some (.ins C dx fs))(c:Cls X.K C)(n:NoAttr X.K C f)(hl:fs.length<1000)(ry:RelV y u)
 (h:∀s',Inv X pins σ (upd H a (.ins C dx (za7 f y fs))) s'->Q () s'):wpAny (model X.prog X.w) A (setAttr (.ref a) f u) Q E s:=by
 obtain⟨mA,O,r,wi,_,ho⟩:=zfa I.hok e
 have hz:(fs.map (·.1)).length<=sizeLine:=by rw[List.length_map,sizeLine_eq];omega
 refine zol I.kIn O c.sa c.po n.taker c.hd wi hz λh' O' sb=>h _ ?_
 have hd:∃o,h'.get? dx=some o:=let⟨o,_,_,e',_⟩:=O'.ns;⟨o,e'⟩
 refine I.write (x:=a) (e:=dx) (by rw[e];exact True.intro) (.inr ho) (λb q hb z=>(sb.2 b hb).trans z) hd ?_
 refine⟨by rw[zh O.ne];exact ho,?_,O.ne,O'.obj,_,O'.ns,λg=>?_,λg hg=>?_⟩
 ·have:=zeM f y fs;omega
 ·show RelO ((za7 f y fs).lookup g) (if g=f then some u else mA g)
  rw[zeQ]
  by_cases q:g=f
  ·rw[if_pos q,if_pos q];exact ry
  ·rw[if_neg q,if_neg q];exact r g
 ·by_cases q:g=f
  ·rw[q];exact(zeA f y fs).1
  ·refine (zeA f y fs).2 g (wi g λz=>hg ?_)
   show(if g=f then some u else mA g)=none
   rw[if_neg q];exact z
theorem Inv.made(I:Inv X pins σ H s):Inv X pins σ (upd (upd H s.heap.objs.size (.own (s.heap.objs.size+1))) (s.heap.objs.size+1) (.ins C s.heap.objs.size []))
 {s with heap:=(s.heap.push PySem.W.emptyDict).push (PySem.W.instObj C s.heap.objs.size)}:=by
 have e1:(s.heap.push PySem.W.emptyDict).get? s.heap.objs.size=some PySem.W.emptyDict:=Heap.get?_push_size s.heap rfl
 have e2:((s.heap.push PySem.W.emptyDict).push (PySem.W.instObj C s.heap.objs.size)).get? (s.heap.objs.size+1)=some (PySem.W.instObj C s.heap.objs.size):=by
  have:=Heap.get?_push_size (s.heap.push PySem.W.emptyDict) (o:=PySem.W.instObj C s.heap.objs.size) rfl
  rwa[Heap.size_push] at this
 have e3:(s.heap.push PySem.W.emptyDict).Ns s.heap.objs.size (λ_=>none):=⟨PySem.W.emptyDict, #[],_,e1,rfl,(λe he=>absurd he (by simp)),λ_=>rfl⟩
 have I1:=I.laid (a:=s.heap.objs.size) (o:= .own (s.heap.objs.size+1)) (h':=s.heap.push PySem.W.emptyDict) (t':=s.toks) (λb u q=>Heap.get?_push_of_some _ q) (Nat.le_refl _) ⟨_,e1⟩
 refine I1.laid (a:=s.heap.objs.size+1) (o:= .ins C s.heap.objs.size []) (t':=s.toks) (λb u q=>Heap.get?_push_of_some _ q) (Nat.le_of_eq (Heap.size_push _ _)) ?_
 have ne:s.heap.objs.size≠s.heap.objs.size+1:=Nat.ne_of_lt (Nat.lt_succ_self _)
 refine⟨by rw[zh ne,zb],Nat.zero_le _,ne,e2,λ_=>none,(Heap.Ns1.of_empty e3).at λo q=>Heap.get?_push_of_some _ q,λ_=>True.intro,λy hy=>absurd rfl hy⟩
theorem zn1{prog:Program}{w:World}{env:Env}{e:Expr}{f:Str}{pos:Pos}{s:Shared}{Q:Value->Shared->Prop}(hb:attributeBase e f env (eval e env)=eval e env)
 (h:wpAny (model prog w) A (eval e env) (λo s₁=>wpAny (model prog w) A (getAttr o f true) Q E s₁) E s):wpAny (model prog w) A (eval (.Attribute e f pos) env) Q E s:=
 Attribute_any_ h (by rw[arm_eval_Attribute,hb])
end
noncomputable def zqM(K:PySem.W.Frag)(ta:TE)(f:Str):TE:=λσ H Q=>ta σ H λx H1=>∃a C dx fs v,x= .ref a/\H1 a=some (.ins C dx fs)/\Cls K C/\NoAttr K C f/\fs.lookup f=some v/\Q v H1
noncomputable def zqu(K:PySem.W.Frag)(ta tv:TE)(f:Str):TS:=λD σ H=>tv σ H λy H1=>ta σ H1 λx H2=>∃a C dx fs,x= .ref a/\H2 a=some (.ins C dx fs)/\Cls K C/\NoAttr K C f/\fs.length<1000/\
 D.nx σ (upd H2 a (.ins C dx (za7 f y fs)))
def zmo(X:Cx)(op:Operator)(rd:V->V->Hp->VK->Prop):Prop:=
 ∀(pins:List (Addr×Obj)) (s:Shared) (σ:St) (H:Hp) (x y:V) (u v:Value) (Q:VK),Inv X pins σ H s->RelV x u->RelV y v->rd x y H Q->wpAny (model X.prog X.w) X.A (inplaceOp op u v) (EP X pins σ Q) X.xe s
def zkz(K:PySem.W.Frag)(ta tv:TE)(rd:V->V->Hp->VK->Prop)(f:Str):TS:=λD σ H=>ta σ H λx H1=>∃a C dx fs v,x= .ref a/\H1 a=some (.ins C dx fs)/\Cls K C/\NoAttr K C f/\fs.lookup f=some v/\
 tv σ H1 λy H2=>rd v y H2 λz H3=>∃dx' fs',H3 a=some (.ins C dx' fs')/\fs'.length<1000/\D.nx σ (upd H3 a (.ins C dx' (za7 f z fs')))
section
variable{X:Cx}{o e value:Expr}{f:Str}{pos pos' tpos:Pos}{ta tv:TE}
theorem zpz(he:PE X e ta)(hb:attributeBase e f X.env (eval e X.env)=eval e X.env):PE X (.Attribute e f pos) (zqM X.K ta f):=by
 intro pins s σ H Q I h
 refine zn1 hb (thn (he pins s σ H _ I h) λu s1 ⟨x,H1,I1,rx,a,C,dx,fs,v,ex,ea,c,n,l,q⟩=>?_)
 subst ex
 obtain rfl:u=Value.ref a:=rx
 exact zfi I1 ea c n l λu' s2 I2 ru=>⟨v,H1,I2,ru,q⟩
theorem zpv(ha:PE X o ta)(hv:PE X value tv)(hs:swapsWith value (some (.Attribute o f pos')) pos.line X.env=pure false):PS X (.Assign [.Attribute o f pos'] value pos) (zqu X.K ta tv f):=by
 intro pins s σ H D I h
 refine plainObj_wpAny_Assign_Attribute (thn (hv pins s σ H _ I h) λu s1 ⟨y,H1,I1,ry,q⟩=>thn (ha pins s1 σ H1 _ I1 q) λov s2 ⟨x,H2,I2,rx,a,C,dx,fs,ex,ea,c,n,l,q2⟩=>?_) hs
 subst ex
 obtain rfl:ov=Value.ref a:=rx
 exact zfT I2 ea c n l ry λs3 I3=>⟨σ,_,I3,q2⟩
theorem zk7{op:Operator}{rd:V->V->Hp->VK->Prop}(ha:PE X o ta)(hv:PE X value tv)(hop:zmo X op rd):PS X (.AugAssign (.Attribute o f tpos) op value pos) (zkz X.K ta tv rd f):=by
 intro pins s σ H D I h
 refine wpAny_AugAssign_AttributeAny (thn (ha pins s σ H _ I h) λov s1 ⟨x,H1,I1,rx,a,C,dx,fs,v,ex,ea,c,n,l,q⟩=>?_)
 subst ex
 obtain rfl:ov=Value.ref a:=rx
 refine zfi I1 ea c n l λu s2 I2 ru=>thn (hv pins s2 σ H1 _ I2 q) λw3 s3 ⟨y,H2,I3,ry,q3⟩=>thn (hop pins s3 σ H2 v y u w3 _ I3 ru ry q3) λw4 s4 ⟨z,H3,I4,rz,dx',fs',ea',l',q4⟩=>?_
 exact zfT I4 ea' c n l' rz λs5 I5=>⟨σ,_,I5,q4⟩
def zqP:V->V->Hp->VK->Prop:=λx y H Q=>∃i j,x= .int i/\y= .int j/\Q (.int (i+j)) H
theorem zm5:zmo X .Add zqP:=by
 rintro pins s σ H x y u v Q I rx ry ⟨i,j,rfl,rfl,q⟩
 obtain⟨t,rfl⟩:=(show∃t,u=Value.int i t from rx)
 obtain⟨t',rfl⟩:=(show∃t',v=Value.int j t' from ry)
 exact PyProof.Rows.iadd_int ⟨.int (i+j),H,I.tok _,⟨_,rfl⟩,q⟩
theorem methcall_of{pl:Sem Bool}{m:Str}{apos:Pos}{args:List Expr}{pins:List (Addr×Obj)}{s:Shared}{σ:St}{H:Hp}{Q:Value->Shared->Prop}{te:TE}(he:PE X e te)(I:Inv X pins σ H s)
 (h:te σ H λx H1=>∃a C dx fs g,x= .ref a/\H1 a=some (.ins C dx fs)/\Cls X.K C/\Meth X.K C m g/\fs.lookup m=none/\
   ∀s1,Inv X pins σ H1 s1->wpAny (model X.prog X.w) X.A (callWith pos (.ref g) [.ref a] (backTo pos (starEach args X.env)) (backToKw pos (keywordEach [] X.env))) Q X.xe s1)
 (ht:eval (.Call (.Attribute e m apos) args [] pos) X.env=(do
   let ov ←eval e X.env
   standAt apos.atName
   let(f,first) ←holding [ov] (getMethod ov m pl)
   callWith pos f first (backTo pos (starEach args X.env)) (backToKw pos (keywordEach [] X.env)))):
 wpAny (model X.prog X.w) X.A (eval (.Call (.Attribute e m apos) args [] pos) X.env) Q X.xe s:=by
 refine PySem.W.methodCall_KW (pl:=pl) (thn (he pins s σ H _ I h) λu s1 ⟨x,H1,I1,rx,a,C,dx,fs,g,ex,ea,c,k,l,q⟩=>?_) ht
 subst ex
 obtain rfl:u=Value.ref a:=rx
 exact zdK I1 ea c k l (q s1 I1)
end
section
variable{X:Cx}{pins:List (Addr×Obj)}{σ:St}{H:Hp}{s:Shared}{A:Around}{E:Value->Shared->Prop}{Q:Value->Shared->Prop}{c:Value}{b:Bool}
inductive TyOf(K:PySem.W.Frag)(H:Hp):V->Value->Prop where
 |non:TyOf K H .non (.type "NoneType")
 |bl (x:Bool):TyOf K H (.bl x) (.type "bool")
 |int (i:Int):TyOf K H (.int i) (.type "int")
 |str (x:Str):TyOf K H (.str x) (.type "str")
 |flt (x:UInt64):TyOf K H (.flt x) (.type "float")
 |lst {a:Addr} {xs:List V} (e:H a=some (.lst xs)):TyOf K H (.ref a) (.type "list")
 |frz {a:Addr} {o:Obj} {xs:List V} (e:H a=some (.frz o (.lst xs))):TyOf K H (.ref a) (.type "list")
 |tup {a:Addr} {xs:List V} (e:H a=some (.tup xs)):TyOf K H (.ref a) (.type "tuple")
 |dK {a:Addr} {kvs:List (Key×V)} (e:H a=some (.dK kvs)):TyOf K H (.ref a) (.type "dict")
 |dT {a:Addr} {kvs:List (List Key×V)} (e:H a=some (.dT kvs)):TyOf K H (.ref a) (.type "dict")
 |ins {a C dx:Addr} {fs:List (Str×V)} (e:H a=some (.ins C dx fs)) (cl:Cls K C) (ha:PySem.W.findIn K (.ref C) "__class__"=some (some (.builtin "object.__class__")))
   (hn:PySem.W.specialIn K (.builtin "object.__class__") "__get__"=some (some (.builtin "getset_descriptor.__get__"))) (htk:PySem.W.takesIn K (.builtin "object.__class__")=some true)
   (hm:PySem.W.mroIn K C (.type "object")=some true):TyOf K H (.ref a) (.ref C)
theorem zli{x:V}{u t:Value}(I:Inv X pins σ H s)(rx:RelV x u)(ty:TyOf X.K H x t)(e:PySem.W.kitOne X.K t c=some b)(h:∀tk,Q (.bool b) {s with toks:=tk}):
 wpAny (model X.prog X.w) A (call (.builtin "isinstance") [u,c]) Q E s:=by
 cases ty with
 |non=>cases (show u=Value.none from rx);exact PySem.W.kia_one PySem.W.kitx_none I.kIn True.intro e (λz=>nomatch z) h
 |bl y=>cases (show u=Value.bool y from rx);exact PySem.W.kia_one PySem.W.kitx_bool I.kIn True.intro e (λz=>nomatch z) h
 |int i=>obtain ⟨t,q⟩:=(show∃t,u=Value.int i t from rx);cases q;exact PySem.W.kia_one PySem.W.kitx_int I.kIn True.intro e (λz=>nomatch z) h
 |str y=>obtain ⟨t,q⟩:=(show∃t,u=Value.str y t from rx);cases q;exact PySem.W.kia_one PySem.W.kitx_str I.kIn True.intro e (λz=>nomatch z) h
 |flt y=>obtain ⟨t,q⟩:=(show∃t,u=Value.float y t from rx);cases q;exact PySem.W.kia_one PySem.W.kitx_float I.kIn True.intro e (λz=>nomatch z) h
 | @lst a xs ea=>
   cases(show u=Value.ref a from rx)
   obtain⟨_,_,n,_,h1⟩:=(show ObjOk X.prog X.w H s.heap a (.lst xs)from I.hok a _ ea)
   exact PySem.W.kia_one PySem.W.kitx_list I.kIn ⟨_,h1,rfl⟩ e (λz=>nomatch z) h
 | @frz a ob xs ea=>
   cases(show u=Value.ref a from rx)
   obtain⟨_,_,_,n,_,h1⟩:=(show ObjOk X.prog X.w H s.heap a (.frz ob (.lst xs))from I.hok a _ ea)
   exact PySem.W.kia_one PySem.W.kitx_list I.kIn ⟨_,h1,rfl⟩ e (λz=>nomatch z) h
 | @tup a xs ea=>
   cases(show u=Value.ref a from rx)
   obtain⟨_,_,_,p,_⟩:=(show ObjOk X.prog X.w H s.heap a (.tup xs)from I.hok a _ ea)
   obtain⟨o,h1,h2,_⟩:=p
   exact PySem.W.kia_one PySem.W.kitx_tuple I.kIn ⟨o,h1,h2⟩ e (λz=>nomatch z) h
 | @dK a kvs ea=>
   cases(show u=Value.ref a from rx)
   obtain⟨_,_,vs,_,p⟩:=(show ObjOk X.prog X.w H s.heap a (.dK kvs)from I.hok a _ ea)
   obtain⟨o,es,ep,h1,h2,_⟩:=p
   exact PySem.W.kia_one PySem.W.kitx_dict I.kIn ⟨o,h1,h2.1⟩ e (λz=>nomatch z) h
 | @dT a kvs ea=>
   cases(show u=Value.ref a from rx)
   obtain⟨_,_,xs,_,o,es,ep,h1,h2,_⟩:=(show ObjOk X.prog X.w H s.heap a (.dT kvs)from I.hok a _ ea)
   exact PySem.W.kia_one PySem.W.kitx_dict I.kIn ⟨o,h1,h2.1⟩ e (λz=>nomatch z) h
 | @ins a C dx fs ea cl ha hn htk hm=>
   cases(show u=Value.ref a from rx)
   obtain⟨mA,O,_⟩:=zfa I.hok ea
   obtain⟨od,J,_⟩:=O.look
   exact PySem.W.kia_one (PySem.W.kitx_own (cl.get _) cl.hd ha hn htk hm) I.kIn J e (λz=>nomatch z) h
end
structure Room(k:Nat)(A:Around):Prop where
 hd:A.handled=none
 dp:A.depth+3*k+5<recursionLimit
 un:A.units+16*k+200<cLine
 gd:A.guards=some []
theorem Room.mono{j k:Nat}{A:Around}(r:Room k A)(h:j<=k):Room j A:=⟨r.hd,by have:=r.dp;omega,by have:=r.un;omega,r.gd⟩
theorem Room.deeper{k:Nat}{A:Around}(r:Room (k+1) A)(env:Env):Room k (A.deeper env):=
 ⟨r.hd,by have:=r.dp;show A.depth+1+3*k+5<_;omega,by have:=r.un;show A.units+3+16*k+200<_;omega,r.gd⟩
theorem zjk{A:Around}{C:Addr}{us:List Value}{kw:List (Str×Value)}:(A.under (.builtin "type.__call__" ⟨.ref C::us,kw⟩)).depth=A.depth+1:=by
 first|rfl|simp[Around.under,Code.weight,Code.isCreation,Code.isGuard,Code.isCaller,Code.frames,Code.isFrame,guardIds]
theorem zjo{A:Around}{C:Addr}{us:List Value}{kw:List (Str×Value)}:(A.under (.builtin "type.__call__" ⟨.ref C::us,kw⟩)).units=A.units+1:=by
 first|rfl|simp[Around.under,Code.cUnits,Code.frames,Code.isFrame]
theorem Room.make{k:Nat}{A:Around}(r:Room (k+1) A)(C:Addr)(us:List Value)(kw:List (Str×Value)):Room k (A.under (.builtin "type.__call__" ⟨.ref C::us,kw⟩)):=
 ⟨r.hd,by have:=r.dp;rw[zjk];omega,by have:=r.un;rw[zjo];omega,(show(_:Option _)=some [] from r.gd)⟩
theorem Room.depth{k:Nat}{A:Around}(r:Room k A):A.depth<recursionLimit:=by have:=r.dp;omega
theorem Room.units{k:Nat}{A:Around}(r:Room k A):A.units+64<cLine:=by have:=r.un;omega
noncomputable def zl4:TA:=λ_ H Q=>Q [] H
noncomputable def zkd(ta:TE)(tr:TA):TA:=λσ H Q=>ta σ H λx H1=>tr σ H1 λxs H2=>Q (x::xs) H2
section
variable{X:Cx}{e:Expr}{es:List Expr}{te:TE}{t:TA}{pos:Pos}
theorem zlX:PA X [] zl4:=λ_ _ _ _ H Q I h=>Calls.spliced_nil ⟨[],H,I, .nil,h⟩
theorem zj2(ha:PE X e te)(hr:PA X es t)(hs:starEach (e::es) X.env=(false,eval e X.env)::starEach es X.env:=by rfl):PA X (e::es) (zkd te t):=by
 intro pos pins s σ H Q I h
 rw[hs]
 show wpAny _ _ (spliced ((false,eval e X.env)::backTo pos (starEach es X.env))) _ _ s
 refine Calls.spliced_cons (thn (ha pins s σ H _ I h) λu s1 ⟨x,H1,I1,r1,q1⟩=>?_)
 exact thn (hr pos pins s1 σ H1 _ I1 q1) λus s2 ⟨xs,H2,I2,r2,q2⟩=>⟨x::xs,H2,I2, .cons r1 r2,q2⟩
noncomputable def zqm(t:TA):TE:=λσ H Q=>t σ H λxs H1=>xs.length<=sizeLine/\∀p,H1 p=none->Q (.ref p) (upd H1 p (.tup xs))
noncomputable def zpg(t:TA):TE:=λσ H Q=>t σ H λxs H1=>xs.length<=sizeLine/\∀p,H1 p=none->Q (.ref p) (upd H1 p (.lst xs))
theorem zpl{x1}(h:PA X es t):PE X (.Tuple es x1 pos) (zqm t):=by
 intro pins s σ H Q I hq
 refine wpAny_Tuple_spliced (thn (h pos pins s σ H _ I hq) λus s1 ⟨xs,H1,I1,r,z,q⟩=>⟨by rw[←r.length];exact z,?_⟩)
 have hf:H1 s1.heap.objs.size=none:=I1.hok.fresh (Nat.le_refl _)
 refine⟨.ref s1.heap.objs.size,upd H1 s1.heap.objs.size (.tup xs),I1.laid (t':=s1.toks) (λb u e=>Heap.get?_push_of_some _ e) (Nat.le_refl _) ?_,rfl,q _ hf⟩
 exact⟨z,us,r,⟨_,Heap.get?_push_size _ rfl,rfl,_,rfl⟩,NoDict.new rfl (Heap.get?_push_size _ rfl)⟩
theorem zma(h:PA X es t):PE X (.List es pos) (zpg t):=by
 intro pins s σ H Q I hq
 refine wpAny_List_spliced (thn (h pos pins s σ H _ I hq) λus s1 ⟨xs,H1,I1,r,z,q⟩=>⟨by rw[←r.length];exact z,?_⟩)
 have hf:H1 s1.heap.objs.size=none:=I1.hok.fresh (Nat.le_refl _)
 refine⟨.ref s1.heap.objs.size,upd H1 s1.heap.objs.size (.lst xs),I1.laid (t':=s1.toks) (λb u e=>Heap.get?_push_of_some _ e) (Nat.le_refl _) ?_,rfl,q _ hf⟩
 exact⟨z,us,0,r,Heap.get?_push_size _ rfl⟩
end
noncomputable abbrev Sp:=List V->Hp->VK->XK->Prop
noncomputable abbrev CXT:=List Env->Hp->Shared->XK->Value->Shared->Prop
structure Env0(P:Program)(w:World)(K:PySem.W.Frag)(mg:Str->Option Value)(base:Heap)(A:Around)(outer:List Env)(s:Shared)(H:Hp):Prop where
 frames:A.frames=some outer
 mod:Mod K mg base
 bs:∀b o,base.get? b=some o->s.heap.get? b=some o/\H b=none
 bsz:base.objs.size<=s.heap.objs.size
 funs:s.heap.FunFrames base outer
 frf:∀b∈frs outer,H b=none
 hok:HOk P w H s.heap
 bare:AllBare s.gens
def CE(outer:List Env)(P:Program)(w:World)(H:Hp)(s:Shared)(Q:VK)(u:Value)(s':Shared):Prop:=
 ∃v H',s'.os=s.os/\AllBare s'.gens/\Un (frs outer) [] H H' s.heap s'.heap/\HOk P w H' s'.heap/\RelV v u/\Q v H'
def CR(CX:CXT)(outer:List Env)(P:Program)(w:World)(H:Hp)(s:Shared)(Q:VK)(E:XK)(r:Result)(s':Shared):Prop:=
 match r with
 | .ok (.ret u)=>CE outer P w H s Q u s'
 | .ok _=>False
 | .error e=>CX outer H s E e s'
structure FnOk(P:Program)(w:World)(K:PySem.W.Frag)(mg:Str->Option Value)(base:Heap)(CX:CXT)(k:Nat)(f:Addr)(fd:FuncData)(ps:List Str)(sp:Sp):Prop where
 len:∀vs H Q E,sp vs H Q E->vs.length=ps.length
 run:∀(A:Around) (outer:List Env) (s:Shared) (H:Hp) (args:Args) (us:List Value) (vs:List V) (Q:VK) (E:XK),Room k A->Env0 P w K mg base A outer s H->BindsTo s fd args (ps.zip us)->Vals vs us->sp vs H Q E->
  codeAny (model P w) A (.call (.ref f) args) (CR CX outer P w H s Q E) s
theorem Env0.make{P:Program}{w:World}{K:PySem.W.Frag}{mg:Str->Option Value}{base:Heap}{A:Around}{outer:List Env}{s:Shared}{H:Hp}(e:Env0 P w K mg base A outer s H)(C:Addr)(us:List Value)(kw:List (Str×Value)):
 Env0 P w K mg base (A.under (.builtin "type.__call__" ⟨.ref C::us,kw⟩)) outer s H:=⟨by first|exact e.frames|(simpa[Around.under,Code.envs,Code.isFrame,pushEnvs] using e.frames),e.mod,e.bs,e.bsz,e.funs,e.frf,e.hok,e.bare⟩
section
variable{X:Cx}{pins:List (Addr×Obj)}{σ:St}{H:Hp}{s s':Shared}
theorem Inv.env0(I:Inv X pins σ H s):Env0 X.prog X.w X.K X.mg X.base X.A X.stack s H:=
 ⟨I.ok.frames,I.ok.mod,I.bs,Nat.le_trans I.ok.bsz I.sz,I.stack,I.stkFree,I.hok,I.bare⟩
theorem Inv.after{Q:VK}{u:Value}(I:Inv X pins σ H s)(h:CE X.stack X.prog X.w H s Q u s'):EP X pins σ Q u s':=by
 obtain⟨v,H',os,bare,un,hok,r,q⟩:=h
 obtain⟨hh,g,d,t,os'⟩:=s'
 obtain rfl:os'=s.os:=os
 exact⟨v,H',I.call (h':=hh) (g':=g) (d':=d) (t':=t) (ch:=[]) un hok bare (λb z=>absurd z (by simp)),r,q⟩
end
noncomputable def zoO(sp:Sp)(dvs:List V)(E:XK)(t:TA):TE:=λσ H Q=>t σ H λvs H1=>sp (vs ++dvs) H1 Q E
noncomputable def zkm(C:Addr)(m:Str)(sp:Sp)(dvs:List V)(E:XK)(ta:TE)(t:TA):TE:=λσ H Q=>ta σ H λx H1=>∃a dx fs,x= .ref a/\H1 a=some (.ins C dx fs)/\fs.lookup m=none/\
 t σ H1 λvs H2=>sp (x::(vs ++dvs)) H2 Q E
noncomputable def zo2(C:Addr)(sp:Sp)(dvs:List V)(E:XK)(t:TA):TE:=λσ H Q=>t σ H λvs H1=>∀x dx,H1 x=none->H1 dx=none->dx≠x->
 sp (.ref x::(vs ++dvs)) (upd (upd H1 dx (.own x)) x (.ins C dx [])) (λv H2=>v= .non/\Q (.ref x) H2) E
def Binds(K:PySem.W.Frag)(fd:FuncData)(ps:List Str)(ds:List Value):Prop:=
 ∀(s:Shared) (us:List Value),K.In s.heap->(us ++ds).length=ps.length->BindsTo s fd ⟨us,[]⟩ (ps.zip (us ++ds))
theorem Binds.all{K:PySem.W.Frag}{fd:FuncData}{ps:List Str}(h:∀us:List Value,us.length=ps.length->bindArgs fd ⟨us,[]⟩=pure (ps.zip us)):Binds K fd ps []:=λs us _ hl=>by
 rw[List.append_nil] at hl⊢
 exact .of_eq (h us hl)
def zce(CX:CXT)(X:Cx)(E:XK):Prop:=∀(pins:List (Addr×Obj)) (σ:St) (H:Hp) (s:Shared) (e:Value) (s':Shared),Inv X pins σ H s->CX X.stack H s E e s'->X.xe e s'
section
variable{X:Cx}{CX:CXT}{k:Nat}{f C:Addr}{fd:FuncData}{ps:List Str}{sp:Sp}{dvs:List V}{ds:List Value}{E:XK}{x m:Str}{p pos apos:Pos}{e o:Expr}{es:List Expr}{ta:TE}{t:TA}
theorem zi5{pins:List (Addr×Obj)}{σ:St}{H:Hp}{s:Shared}{Q:VK}{us:List Value}{vs:List V}(F:FnOk X.prog X.w X.K X.mg X.base CX k f fd ps sp)(hr:Room k X.A)(hb:Binds X.K fd ps ds)(hd:Vals dvs ds)(hx:zce CX X E)
 (I:Inv X pins σ H s) (r:Vals vs us) (h:sp (vs ++dvs) H Q E):wpAny (model X.prog X.w) X.A (call (.ref f) us) (EP X pins σ Q) X.xe s:=by
 have r2:Vals (vs ++dvs) (us ++ds):=r.append hd
 have hl:(us ++ds).length=ps.length:=by rw[←r2.length];exact F.len _ _ _ _ h
 refine wpAny_call (codeAny_mono (F.run X.A X.stack s H ⟨us,[]⟩ (us ++ds) (vs ++dvs) Q E hr I.env0 (hb s us I.kIn hl) r2 h) λr s' hq=>?_)
 cases r with
 |error e=>exact hx pins σ H s e s' I hq
 |ok fl=>
  cases fl with
  |ret u=>exact I.after hq
  |next=>exact False.elim hq
  |brk=>exact False.elim hq
  |cont=>exact False.elim hq
theorem znY(F:FnOk X.prog X.w X.K X.mg X.base CX k f fd ps sp)(hr:Room k X.A)(hg:Gl X x)(hm:X.mg x=some (.ref f))(hk:PySem.W.keepIn X.K (.ref f)=true)(hb:Binds X.K fd ps ds)(hd:Vals dvs ds)(hx:zce CX X E)
 (ha:PA X (e::es) t) (hdb:(x==("__debug__":Str))=false:=by decide) (he:starEach (e::es) X.env=(false,eval e X.env)::starEach es X.env:=by rfl) (hpl:(backTo pos (starEach es X.env)).any (·.1)=false:=by rfl):
 PE X (.Call (.Name x p) (e::es) [] pos) (zoO sp dvs E t):=by
 intro pins s σ H Q I h
 refine wpAny_Call_Name_kw (zhv I hg hm ?_ hdb)
 refine PySem.W.callWith_K (h₀:=X.base) I.ok.mod.kin hk (thn (ha pos pins s σ H _ I h) λus s1 ⟨vs,H1,I1,r,q⟩=>⟨I1.kIn,?_⟩) he hpl
 exact zi5 F hr hb hd hx I1 r q
theorem zou{pl:Sem Bool}(he:PE X o ta)(c:Cls X.K C)(hm:Meth X.K C m f)(F:FnOk X.prog X.w X.K X.mg X.base CX k f fd ps sp)(hr:Room k X.A)(hb:Binds X.K fd ps ds)(hd:Vals dvs ds)(hx:zce CX X E)(ha:PA X (e::es) t)
 (hst:starEach (e::es) X.env=(false,eval e X.env)::starEach es X.env:=by rfl) (hpl:(backTo pos (starEach es X.env)).any (·.1)=false:=by rfl)
 (ht:eval (.Call (.Attribute o m apos) (e::es) [] pos) X.env=(do
   let ov ←eval o X.env
   standAt apos.atName
   let(f,first) ←holding [ov] (getMethod ov m pl)
   callWith pos f first (backTo pos (starEach (e::es) X.env)) (backToKw pos (keywordEach [] X.env))):=by rfl):
 PE X (.Call (.Attribute o m apos) (e::es) [] pos) (zkm C m sp dvs E ta t):=by
 intro pins s σ H Q I h
 refine PySem.W.methodCall_KW (pl:=pl) (thn (he pins s σ H _ I h) λu s1 ⟨x,H1,I1,rx,a,dx,fs,ex,ea,l,q⟩=>?_) ht
 subst ex
 obtain rfl:u=Value.ref a:=rx
 refine zdK I1 ea c hm l ?_
 refine PySem.W.callWith_K (first:=[.ref a]) (h₀:=X.base) I.ok.mod.kin hm.kp (thn (ha pos pins s1 σ H1 _ I1 q) λus s2 ⟨vs,H2,I2,r,q2⟩=>⟨I2.kIn,?_⟩) hst hpl
 exact zi5 (us:= .ref a::us) (vs:= .ref a::vs) F hr hb hd hx I2 (.cons rfl r) q2
theorem zmm{pl:Sem Bool}(he:PE X o ta)(c:Cls X.K C)(hm:Meth X.K C m f)(F:FnOk X.prog X.w X.K X.mg X.base CX k f fd ps sp)(hr:Room k X.A)(hb:Binds X.K fd ps ds)(hd:Vals dvs ds)(hx:zce CX X E)
 (ht:eval (.Call (.Attribute o m apos) [] [] pos) X.env=(do
   let ov ←eval o X.env
   standAt apos.atName
   let(f,first) ←holding [ov] (getMethod ov m pl)
   callWith pos f first (backTo pos (starEach [] X.env)) (backToKw pos (keywordEach [] X.env))):=by rfl):
 PE X (.Call (.Attribute o m apos) [] [] pos) (zkm C m sp dvs E ta zl4):=by
 intro pins s σ H Q I h
 refine PySem.W.methodCall_KW (pl:=pl) (thn (he pins s σ H _ I h) λu s1 ⟨x,H1,I1,rx,a,dx,fs,ex,ea,l,q⟩=>?_) ht
 subst ex
 obtain rfl:u=Value.ref a:=rx
 refine zdK I1 ea c hm l ?_
 exact PySem.W.callWith_K0 (first:=[.ref a]) I1.kIn hm.kp (zi5 (us:=[.ref a]) (vs:=[.ref a]) F hr hb hd hx I1 (.cons rfl .nil) q)
structure Mk(K:PySem.W.Frag)(C f:Addr):Prop where
 makes:PySem.W.makesIn K C=true
 init:PySem.W.findIn K (.ref C) "__init__"=some (some (.ref f))
 fn:PySem.W.isFn K (.ref f)=true
 kp:PySem.W.keepIn K (.ref C)=true
theorem zlZ{pins:List (Addr×Obj)}{σ:St}{H:Hp}{s:Shared}{Q:VK}{us:List Value}{vs:List V}(M:Mk X.K C f)(F:FnOk X.prog X.w X.K X.mg X.base CX k f fd ps sp)(hr:Room (k+1) X.A)(hb:Binds X.K fd ps ds)(hd:Vals dvs ds)
 (hx:zce CX X E) (I:Inv X pins σ H s) (r:Vals vs us)
 (h:∀x dx,H x=none->H dx=none->dx≠x->sp (.ref x::(vs ++dvs)) (upd (upd H dx (.own x)) x (.ins C dx [])) (λv H2=>v= .non/\Q (.ref x) H2) E):
 wpAny (model X.prog X.w) X.A (call (.ref C) us) (EP X pins σ Q) X.xe s:=by
 have hq:=h (s.heap.objs.size+1) s.heap.objs.size (I.hok.fresh (Nat.le_succ _)) (I.hok.fresh (Nat.le_refl _)) (Nat.ne_of_lt (Nat.lt_succ_self _))
 have I2:=Inv.made (C:=C) I
 have r2:Vals (V.ref (s.heap.objs.size+1)::(vs ++dvs)) (Value.ref (s.heap.objs.size+1)::(us ++ds)):= .cons rfl (r.append hd)
 have hl:(Value.ref (s.heap.objs.size+1)::us ++ds).length=ps.length:=by
  have e:=r2.length
  rw[F.len _ _ _ _ hq] at e
  exact e.symm
 refine wpAny_call (zmL (f:=f) I.kIn M.makes M.init (beq_iff_eq.mp M.fn) (codeAny_mono (F.run _ X.stack _ _ ⟨Value.ref (s.heap.objs.size+1)::us,[]⟩ (Value.ref (s.heap.objs.size+1)::(us ++ds)) _ _ E (hr.make C us [])
  (I2.env0.make C us []) (hb _ (Value.ref (s.heap.objs.size+1)::us) I2.kIn hl) r2 hq) λr s' hq'=>?_))
 cases r with
 |error e=>exact hx pins σ _ _ e s' I2 hq'
 |ok fl=>
  cases fl with
  |ret u=>
   obtain⟨v,H',I3,rv,ev,q3⟩:=I2.after hq'
   subst ev
   exact⟨rv,⟨V.ref (s.heap.objs.size+1),H',I3,rfl,q3⟩⟩
  |next=>exact False.elim hq'
  |brk=>exact False.elim hq'
  |cont=>exact False.elim hq'
theorem zot(M:Mk X.K C f)(F:FnOk X.prog X.w X.K X.mg X.base CX k f fd ps sp)(hr:Room (k+1) X.A)(hg:Gl X x)(hm:X.mg x=some (.ref C))(hb:Binds X.K fd ps ds)(hd:Vals dvs ds)(hx:zce CX X E)
 (ha:PA X (e::es) t) (hdb:(x==("__debug__":Str))=false:=by decide) (he:starEach (e::es) X.env=(false,eval e X.env)::starEach es X.env:=by rfl) (hpl:(backTo pos (starEach es X.env)).any (·.1)=false:=by rfl):
 PE X (.Call (.Name x p) (e::es) [] pos) (zo2 C sp dvs E t):=by
 intro pins s σ H Q I h
 refine wpAny_Call_Name_kw (zhv I hg hm ?_ hdb)
 refine PySem.W.callWith_K (h₀:=X.base) I.ok.mod.kin M.kp (thn (ha pos pins s σ H _ I h) λus s1 ⟨vs,H1,I1,r,q⟩=>⟨I1.kIn,?_⟩) he hpl
 exact zlZ M F hr hb hd hx I1 r q
end
section
variable{X:Cx}{CX:CXT}{k:Nat}{f C:Addr}{fd:FuncData}{ps ks:List Str}{sp:Sp}{E:XK}{x m:Str}{p pos apos kpos:Pos}{e o:Expr}{es:List Expr}{kws:List Keyword}{te ta:TE}{t tk:TA}{nm:Option Str}
structure KBinds(K:PySem.W.Frag)(fd:FuncData)(ps ks:List Str)(g:List Value->List Value->List Value)(gV:List V->List V->List V):Prop where
 to:∀(s:Shared) (us ws:List Value),K.In s.heap->(g us ws).length=ps.length->BindsTo s fd ⟨us,ks.zip ws⟩ (ps.zip (g us ws))
 rel:∀{vs:List V} {us:List Value} {zs:List V} {ws:List Value},Vals vs us->Vals zs ws->Vals (gV vs zs) (g us ws)
variable{g:List Value->List Value->List Value}{gV:List V->List V->List V}
end
structure FnScope(N P:List Str)(sc:Scope):Prop where
 kind:sc.kind= .function
 co:sc.isCoroutine=false
 gen:sc.isGenerator=false
 nd:N.Nodup
 pre:N.take P.length=P
 par:∀x∈P,sc.names.lookup x=some .local\/sc.names.lookup x=some .cell
 nofree:∀y∈sc.names,y.2≠ .free
theorem zgV{kindOf:Str->Option NameKind}{x:Str}:∀{binds:List (Str×Value)} {m:Str->Option Value},(∀v,(x,v)∉binds)->bindL kindOf binds m x=m x
 |[],_,_=>rfl
 |(n,v)::r,m,h=>by
  unfold bindL
  rw[zgV λw hw=>h w (List.mem_cons_of_mem _ hw)]
  split
  ·have:x≠n:=by rintro rfl;exact h v List.mem_cons_self
   simp[this]
  ·rfl
theorem zgL{kindOf:Str->Option NameKind}{x:Str}:∀{binds:List (Str×Value)} {m:Str->Option Value},(∀v,(x,v)∉binds)->bindC kindOf binds m x=m x
 |[],_,_=>rfl
 |(n,v)::r,m,h=>by
  unfold bindC
  rw[zgL λw hw=>h w (List.mem_cons_of_mem _ hw)]
  split
  ·rfl
  ·have:x≠n:=by rintro rfl;exact h v List.mem_cons_self
   simp[this]
theorem zgO{kindOf:Str->Option NameKind}{x:Str}{v:Value}:∀{P:List Str} {vs:List Value} {i:Nat} {m:Str->Option Value},P.Nodup->P[i]?=some x->vs[i]?=some v->kindOf x=some .local->
 bindL kindOf (P.zip vs) m x=some v
 |[],_,_,_,_,h,_,_=>by simp at h
 |_::_,[],_,_,_,_,h,_=>by simp at h
 |p::P,w::vs,0,m,nd,h1,h2,hk=>by
  simp at h1 h2;subst h1;subst h2
  show bindL kindOf ((p,w)::P.zip vs) m p=_
  unfold bindL
  rw[zgV λv hv=>(List.nodup_cons.mp nd).1 (List.of_mem_zip hv).1,if_pos hk]
  simp
 |p::P,w::vs,i+1,m,nd,h1,h2,hk=>by
  show bindL kindOf ((p,w)::P.zip vs) m x=_
  unfold bindL
  exact zgO (i:=i) (List.nodup_cons.mp nd).2 (by simpa using h1) (by simpa using h2) hk
theorem zgq{kindOf:Str->Option NameKind}{x:Str}{v:Value}:∀{P:List Str} {vs:List Value} {i:Nat} {m:Str->Option Value},P.Nodup->P[i]?=some x->vs[i]?=some v->kindOf x≠some .local->
 bindC kindOf (P.zip vs) m x=some v
 |[],_,_,_,_,h,_,_=>by simp at h
 |_::_,[],_,_,_,_,h,_=>by simp at h
 |p::P,w::vs,0,m,nd,h1,h2,hk=>by
  simp at h1 h2;subst h1;subst h2
  show bindC kindOf ((p,w)::P.zip vs) m p=_
  unfold bindC
  rw[zgL λv hv=>(List.nodup_cons.mp nd).1 (List.of_mem_zip hv).1,if_neg hk]
  simp
 |p::P,w::vs,i+1,m,nd,h1,h2,hk=>by
  show bindC kindOf ((p,w)::P.zip vs) m x=_
  unfold bindC
  exact zgq (i:=i) (List.nodup_cons.mp nd).2 (by simpa using h1) (by simpa using h2) hk
noncomputable def zdD(N:List Str)(vs:List V):St:=vs.map some ++List.replicate (N.length -vs.length) none
noncomputable def zhN(CX:CXT)(P:Program)(w:World)(K:PySem.W.Frag)(mg:Str->Option Value)(base:Heap)(N:List Str)(qual:Str)(scope:Scope)(f:Addr)(cd:Value)(A:Around)(outer:List Env)(s:Shared)(H:Hp)(E:XK):Cx where
 prog:=P
 w:=w
 K:=K
 mg:=mg
 base:=base
 A:=A.deeper (envOfC qual scope s.heap.objs.size f cd)
 N:=N
 s₀:=s
 H₀:=H
 env:=envOfC qual scope s.heap.objs.size f cd
 outer:=outer
 stack:=envOfC qual scope s.heap.objs.size f cd::outer
 ex:=[]
 calm:=true
 fn:=λ_=>true
 pn:=[]
 xe:=λe s'=>wpAny (model P w) (A.deeper (envOfC qual scope s.heap.objs.size f cd)) (leaving (envOfC qual scope s.heap.objs.size f cd) e) (λ_ s''=>CX outer H s E e s'') (λe' s''=>CX outer H s E e' s'') s'
theorem ziW{sc:Scope}{n:Nat}{x:Str}(h:sc.names.lookup x=some .cell):∃c,(cellsFrom n sc.names []).lookup x=some c:=by
 have q:=PySem.W.cellsFrom_some sc.names n [] (.inl h)
 exact Option.isSome_iff_exists.mp q
theorem zk5{CX:CXT}{P:Program}{w:World}{K:PySem.W.Frag}{mg:Str->Option Value}{base:Heap}{N ps:List Str}{qual:Str}{scope:Scope}{f:Addr}{cd:Value}{A:Around}{outer:List Env}{s s1:Shared}{H:Hp}{E:XK}{us:List Value}{vs:List V}
 (S:FnScope N ps scope) (hd:A.handled=none) (e0:Env0 P w K mg base A outer s H) (hl:vs.length=ps.length) (r:Vals vs us)
 (x:InCallC s s.heap.objs.size (bindL (envOfC qual scope s.heap.objs.size f cd).kindOf (ps.zip us) λ_=>none) (cellsFrom (s.heap.objs.size+1) scope.names []) (bindC (envOfC qual scope s.heap.objs.size f cd).kindOf (ps.zip us) λ_=>none) s1):
 Inv (zhN CX P w K mg base N qual scope f cd A outer s H E) [] (zdD N vs) H s1:=by
 have hpl:ps.length<=N.length:=by have:=congrArg List.length S.pre;rw[List.length_take] at this;omega
 obtain⟨h1,tk,rfl,hk⟩:=x.done
 have noA:∀b:Addr,b∉(zhN CX P w K mg base N qual scope f cd A outer s H E).ex:=λb z=>absurd (show b∈([]:List Addr)from z) (by simp)
 refine⟨⟨e0.mod,S.kind,rfl,rfl,Nat.le_refl _,λy z c h1 h2=>?_,λy hy=>?_,λy c _ h=>?_,λ_=>hd,Around.frames_deeper e0.frames, .inr ⟨rfl,rfl⟩,λb z=>absurd z (noA b),e0.bs,e0.bsz,λb _ _=>noA b,λb z=>absurd z (noA b),e0.funs,e0.frf⟩,
  rfl,e0.bare,Un.kept hk,⟨_,x.toInCall.ns,λi y v h1 h2 h3=>?_⟩,λy c h=>⟨_,x.cell y c h⟩,e0.hok.fresh (Nat.le_refl _),λy c h=>?_,λp hp=>absurd (show p∈([]:List (Addr×Obj))from hp) (by simp),e0.hok.kept hk,?_⟩
 ·exact name_of_addr x.apart (PySem.mem_of_lookup h1) (PySem.mem_of_lookup h2)
 ·have hy:scope.names.lookup y=some .cell\/scope.names.lookup y=some .free:=hy
  rcases hy with hy|hy
  ·exact ziW hy
  ·exact absurd rfl (S.nofree _ (PySem.mem_of_lookup hy))
 ·exact Nat.le_of_lt (x.above y c (PySem.mem_of_lookup h))
 ·have hi:i<vs.length:=by
   unfold zdD at h2
   by_cases hi:i<vs.length
   ·exact hi
   ·rw[List.getElem?_append_right (by simpa using hi)] at h2
    rw[List.getElem?_replicate] at h2
    split at h2<;>cases h2
  have ha:vs[i]?=some v:=by
   unfold zdD at h2
   rw[List.getElem?_append_left (by simpa using hi),List.getElem?_map] at h2
   cases e:vs[i]? with
   |none=>rw[e] at h2;cases h2
   |some a=>rw[e] at h2;cases h2;rfl
  obtain⟨u,hu,rv⟩:=r.get ha
  have hp:ps[i]?=some y:=by
   rw[←S.pre,List.getElem?_take_of_lt (by omega)];exact h1
  have ndP:ps.Nodup:=by rw[←S.pre];exact S.nd.sublist (List.take_sublist _ _)
  refine⟨u,rv,?_⟩
  rcases S.par y (List.mem_of_getElem? hp)with k|k
  ·exact .inl ⟨k,zgO ndP hp hu k⟩
  ·obtain ⟨c,e⟩:=ziW (n:=s.heap.objs.size+1) k
   refine .inr ⟨.inl k,c,e,?_⟩
   have q:=x.cell y c e
   rw[zgq ndP hp hu (by show scope.names.lookup y≠_;rw[k];decide)] at q
   exact q
 ·exact e0.hok.fresh (Nat.le_of_lt (x.above y c (PySem.mem_of_lookup h)))
 ·unfold zdD
  show _=N.length
  rw[List.length_append,List.length_map,List.length_replicate]
  omega
theorem zo6{CX:CXT}{P:Program}{w:World}{K:PySem.W.Frag}{mg:Str->Option Value}{base:Heap}{k:Nat}{f:Addr}{name qual:Str}{params:Arguments}{body:List Stmt}{scope:Scope}{dV kV doc pm cdv ct oc:Value}{an od:Option Addr}
 {osl:Array (Option Value)} {N ps:List Str} {sp:Sp} (lk:K.lookup f=some ⟨oc,od, .func (PySem.W.fnOf name qual params body scope dV kV doc pm an cdv ct),osl⟩) (hcd:PySem.W.codeIn K cdv qual=true) (S:FnScope N ps scope)
 (len:∀vs H Q E,sp vs H Q E->vs.length=ps.length)
 (hbody:∀(A:Around) (outer:List Env) (s:Shared) (H:Hp) (vs:List V) (Q:VK) (E:XK),Room k (A.deeper (envOfC qual scope s.heap.objs.size f cdv))->sp vs H Q E->
   ∃t,PSs (zhN CX P w K mg base N qual scope f cdv A outer s H E) body t/\t {nx:=λ_ H'=>Q .non H',rt:=Q} (zdD N vs) H):
 FnOk P w K mg base CX (k+1) f (PySem.W.fnOf name qual params body scope dV kV doc pm an cdv ct) ps sp:=by
 refine⟨len,λA outer s H args us vs Q E hr e0 hb r hsp=>?_⟩
 have hl:=len _ _ _ _ hsp
 have KX:K.In s.heap:=e0.mod.kin.keeps λb o e=>(e0.bs b o e).1
 have lim:s.heap.NoLimit:=e0.mod.nolimit.keeps λb o e=>(e0.bs b o e).1
 have hkind:∀y∈ps.zip us,scope.names.lookup y.1=some .local\/(scope.names.lookup y.1=some .cell/\((cellsFrom (s.heap.objs.size+1) scope.names []).lookup y.1).isSome=true):=λ⟨n,v⟩ hy=>by
  rcases S.par n (List.of_mem_zip hy).1 with q|q
  ·exact .inl q
  ·exact .inr ⟨q,PySem.W.cellsFrom_some _ _ _ (.inl q)⟩
 refine codeAny_call_function hr.depth (KX _ _ lk) rfl S.co S.gen rfl (PySem.W.codeRec_of KX hcd) (hb _ _ _ _ ?_)
 refine wpAny_newFunctionEnv_cells S.kind hkind λenv he s1 x=>?_
 subst he
 refine⟨lim.keeps x.toInCall.keep,codeAny_func ?_⟩
 obtain⟨t,ht,hq⟩:=hbody A outer s H vs Q E (hr.deeper _) hsp
 have I:Inv (zhN CX P w K mg base N qual scope f cdv A outer s H E) [] (zdD N vs) H s1:=zk5 S hr.hd e0 hl r x
 refine wpAny_mono (ht [] s1 (zdD N vs) H _ I hq) (λfl s' hs=>?_) λe s' hs=>hs
 have fin:∀{σ':St} {H':Hp} {v:V} {u:Value},Inv (zhN CX P w K mg base N qual scope f cdv A outer s H E) [] σ' H' s'->RelV v u->Q v H'->CE outer P w H s Q u s':=
  λ{σ' H' v u} J rv q=>⟨v,H',J.os,J.bare,J.base,J.hok,rv,q⟩
 cases fl with
 |ret u=>
  obtain⟨v,σ',H',J,rv,q⟩:=hs
  exact fin J rv q
 |next=>
  obtain⟨σ',H',J,q⟩:=hs
  exact fin (v:=V.non) (u:=Value.none) J rfl q
 |brk=>
  obtain⟨_,_,_,q⟩:=hs
  exact False.elim q
 |cont=>
  obtain⟨_,_,_,q⟩:=hs
  exact False.elim q
section
variable{X:Cx}{x:Str}{p pos:Pos}{e:Expr}{es:List Expr}{t:TA}{id T:String}{r:List V->Hp->VK->Prop}
def tCB(r:List V->Hp->VK->Prop)(t:TA):TE:=λσ H Q=>t σ H λvs H1=>r vs H1 Q
theorem zmD(hc:CallR X (.builtin id) r)(hg:Gl X x)(hm:X.mg x=none)(hv:bootBuiltins x=some (.builtin id))(ha:PA X (e::es) t)(hn:x≠"__name__":=by decide)(hdb:(x==("__debug__":Str))=false:=by decide)
 (he:starEach (e::es) X.env=(false,eval e X.env)::starEach es X.env:=by rfl) (hpl:(backTo pos (starEach es X.env)).any (·.1)=false:=by rfl):PE X (.Call (.Name x p) (e::es) [] pos) (tCB r t):=by
 intro pins s σ H Q I h
 refine wpAny_Call_Name_kw (zfX I hg hm hv ?_ hn hdb)
 exact PyProof.Rows.callWith_builtin1 (thn (ha pos pins s σ H _ I h) λus s1 ⟨vs,H1,I1,r1,q1⟩=>hc pins s1 σ H1 vs us Q I1 r1 q1) he hpl
theorem zk0(hc:CallR X (.type T) r)(hg:Gl X x)(hm:X.mg x=none)(hv:bootBuiltins x=some (.type T))(ha:PA X (e::es) t)(hn:x≠"__name__":=by decide)(hdb:(x==("__debug__":Str))=false:=by decide)
 (he:starEach (e::es) X.env=(false,eval e X.env)::starEach es X.env:=by rfl) (hpl:(backTo pos (starEach es X.env)).any (·.1)=false:=by rfl):PE X (.Call (.Name x p) (e::es) [] pos) (tCB r t):=by
 intro pins s σ H Q I h
 refine wpAny_Call_Name_kw (zfX I hg hm hv ?_ hn hdb)
 exact PyProof.Rows.callWith_type1 (thn (ha pos pins s σ H _ I h) λus s1 ⟨vs,H1,I1,r1,q1⟩=>hc pins s1 σ H1 vs us Q I1 r1 q1) he hpl
end
end L2
namespace HT
open PySem PyProof.Rows
section
open PySem.SeqAt
open PySem.AutoSeq1 (wpAny_loadPart')
open PySem.MeetsSeq PySem.MeetsSeq2 PySem.MeetsSeq3
end
section
variable{prog:Program}{w:World}{A:Around}{E:Value->Shared->Prop}{s:Shared}
theorem cat_tup{t b:Addr}{vs ws:List Value}{Q:Value->Shared->Prop}(ht:IsTup s.heap t vs.toArray)(hb:IsTup s.heap b ws.toArray)(hv:vs≠ [])
 (h1:ws=[]->Q (.ref t) s) (h2:ws≠ []->Q (.ref s.heap.objs.size) {s with heap:=s.heap.push {cls:= .type "tuple",data:= .seq (vs ++ws).toArray}})
 (hsz:vs.length+ws.length<=sizeLine):wpAny (model prog w) A (binaryOp .Add (.ref t) (.ref b)) Q E s:=by
 obtain⟨⟨cls,dd,data,sl⟩,ho,hc,n,hd⟩:=id ht
 obtain⟨⟨cls2,dd2,data2,sl2⟩,ho2,hc2,n2,hd2⟩:=id hb
 simp only at hc hd hc2 hd2
 subst hc hd hc2 hd2
 have e:vs.toArray ++ws.toArray=(vs ++ws).toArray:=by simp
 by_cases hw:ws=[]
 ·exact concat_meets ⟨_,ho,rfl⟩ ⟨_,ho2,rfl⟩ noFill_tuple_add seq_tuple_add PySem.F.slot_tuple_add PySem.F.entry_tuple_add (PySem.F.args_tuple_add_2 _ _)
   (tuple_addW1 t b vs.toArray ws.toArray n n2 dd dd2 sl sl2 (by simpa using hv) (by simp[hw])) ⟨ho,ho2,h1 hw⟩
 ·refine concat_meets ⟨_,ho,rfl⟩ ⟨_,ho2,rfl⟩ noFill_tuple_add seq_tuple_add PySem.F.slot_tuple_add PySem.F.entry_tuple_add (PySem.F.args_tuple_add_2 _ _)
   (tuple_addW2 t b vs.toArray ws.toArray n n2 dd dd2 sl sl2 (by simpa using hv) (by simpa using hw) (by rw[List.size_toArray,List.size_toArray];exact hsz)) ⟨ho,ho2,?_⟩
  rw[e]
  exact h2 hw
noncomputable def sIx(n d:Nat):Option Int->Nat
 |none=>d
 |some v=>if v<0 then(v+(n:Int)).toNat else min v.toNat n
theorem zpk(n d:Nat)(hd:d<=n)(o:Option Int):sIx n d o<=n:=by
 cases o with
 |none=>exact hd
 |some v=>
  show(if v<0 then(v+(n:Int)).toNat else min v.toNat n)<=n
  by_cases hv:v<0
  ·rw[if_pos hv];omega
  ·rw[if_neg hv];exact Nat.min_le_right _ _
theorem zjU(v:Int)(n d:Nat):(if v<0 then max (v+(n:Int)) 0 else min v (n:Int))=((sIx n d (some v):Nat):Int):=by
 show(if v<0 then max (v+(n:Int)) 0 else min v (n:Int))=(((if v<0 then(v+(n:Int)).toNat else min v.toNat n):Nat):Int)
 by_cases hv:v<0
 ·simp only[if_pos hv];omega
 ·simp only[if_neg hv];omega
theorem zi7(lo hi:Option Int)(n:Nat):Builtin.Slice.sliceAdjust lo hi 1 (n:Int)=(((sIx n 0 lo:Nat):Int),((sIx n n hi:Nat):Int)):=by
 have h1:¬((1:Int)<0):=by omega
 unfold Builtin.Slice.sliceAdjust
 simp only[h1,if_false]
 refine Prod.ext ?_ ?_
 ·cases lo with
  |none=>rfl
  |some v=>exact zjU v n 0
 ·cases hi with
  |none=>rfl
  |some v=>exact zjU v n n
theorem zjv(i j:Nat):Builtin.Slice.slicePlaces (i:Int) (j:Int) 1=j -i:=by
 unfold Builtin.Slice.slicePlaces
 have h1:(1:Int)>0:=by omega
 simp only[h1,if_true,Int.ediv_one]
 split<;>omega
theorem zfy{v:Value}{o:Option Int}{Q:Option Int->Shared->Prop}(p:IsPart v o)(h:Q o s):wpAny (model prog w) A (Builtin.Slice.slicePartIndex v) Q E s:=by
 cases p with
 |none=>exact slicePart_none h
 |int i t=>exact slicePart_int h
theorem zcW{sl:Addr}{vl vu:Value}{lo hi:Option Int}{n:Nat}{Q:Int×Int×Nat->Shared->Prop}(hs:s.heap.IsSliceOf sl vl vu .none)(pl:IsPart vl lo)(pu:IsPart vu hi)
 (h:Q (((sIx n 0 lo:Nat):Int),1,sIx n n hi -sIx n 0 lo) s):wpAny (model prog w) A (Builtin.Slice.sliceApplied (.ref sl) (pure (n:Int))) Q E s:=by
 obtain⟨os,hos,hcs,hds⟩:=id hs
 unfold Builtin.Slice.sliceApplied Builtin.Slice.sliceFields
 refine wpAny_bind (wpAny_bind (wpAny_field hos hds (x:=vl) rfl (wpAny_bind (wpAny_field hos hds (x:=vu) rfl (wpAny_bind (wpAny_field hos hds (x:= .none) rfl (wpAny_pure ?_)))))))
 refine wpAny_bind (slicePart_none ?_)
 show wpAny _ _ (if((1:Int)==0)=true then _ else _) _ _ s
 rw[if_neg (by decide)]
 refine wpAny_bind (zfy pl (wpAny_bind (zfy pu (wpAny_bind (wpAny_pure ?_)))))
 show wpAny _ _ (match Builtin.Slice.sliceAdjust lo hi 1 (n:Int)with|(lo,hi)=>pure (lo,(1:Int),Builtin.Slice.slicePlaces lo hi 1)) _ _ s
 rw[zi7 lo hi n]
 show wpAny _ _ (pure (((sIx n 0 lo:Nat):Int),(1:Int),Builtin.Slice.slicePlaces ((sIx n 0 lo:Nat):Int) ((sIx n n hi:Nat):Int) 1)) _ _ s
 rw[zjv]
 exact wpAny_pure h
theorem zmV(xs:Array Value)(i k:Nat):((List.range k).filterMap λ(m:Nat)=>xs[((i:Int)+(m:Int)*1).toNat]?).toArray=((xs.toList.drop i).take k).toArray:=by
 have e:(λ(m:Nat)=>xs[((i:Int)+(m:Int)*1).toNat]?)=λm=>xs[i+m]?:=by
  funext m
  have:((i:Int)+(m:Int)*1).toNat=i+m:=by omega
  rw[this]
 rw[e]
 have:=pick_run xs i k
 rw[List.filterMap_map] at this
 have e2:((λx=>xs[x]?)∘λx=>i+x)=λm=>xs[i+m]?:=rfl
 rw[e2] at this
 rw[this]
theorem getItem_tuple_cut{t sl:Addr}{items:Array Value}{vl vu:Value}{lo hi:Option Int}{Q:Value->Shared->Prop}(ht:IsTup s.heap t items)(hs:s.heap.IsSliceOf sl vl vu .none)(pl:IsPart vl lo)(pu:IsPart vu hi)
 (hw:¬(sIx items.size 0 lo=0/\sIx items.size items.size hi=items.size))
 (h:Q (.ref s.heap.objs.size) {s with heap:=s.heap.push {cls:= .type "tuple",data:= .seq ((items.toList.drop (sIx items.size 0 lo)).take (sIx items.size items.size hi -sIx items.size 0 lo)).toArray}})
 (hsz:items.size<=sizeLine):wpAny (model prog w) A (getItem (.ref t) (.ref sl)) Q E s:=by
 have htake:sizeOk (.seq ((items.toList.drop (sIx items.size 0 lo)).take (sIx items.size items.size hi -sIx items.size 0 lo)).toArray):=by
  show((items.toList.drop (sIx items.size 0 lo)).take (sIx items.size items.size hi -sIx items.size 0 lo)).toArray.size<=sizeLine
  rw[List.size_toArray,List.length_take,List.length_drop,Array.length_toList]
  omega
 have hj:sIx items.size items.size hi<=items.size:=zpk _ _ (Nat.le_refl _) hi
 obtain⟨os,hos,hcs,hds⟩:=id hs
 have hTs:s.TypeIs (.ref sl) "slice":=⟨os,hos,hcs⟩
 unfold getItem
 try with_reducible refine wpAny_holding ?_
 first|refine wpAny_bind (wpAny_pure ?_)|skip
 refine wpAny_bind (wpAny_sequenceKey ht.typeIs (by decide) ?_)
 refine wpAny_bind (wpAny_callSpecial?_slot (name:=Str.ofString "__getitem__") ht.typeIs PyProof.Rows.slot_tuple_getitem
  (wpAny_call_entry PyProof.Rows.slot_tuple_getitem ht.typeIs entry_tuple_getitem ?_ (args_tuple_getitem _ _)))
 show wpAny _ _ (Builtin.Tuple.tupleItemsOf (.ref t)>>=_) _ _ s
 refine wpAny_bind (tupleItemsOf_ ht ?_)
 refine wpAny_bind (wpAny_typeOf hTs ?_)
 rw[if_pos (by decide)]
 refine wpAny_bind (zcW hs pl pu ?_)
 have hno:¬((((sIx items.size 0 lo:Nat):Int)==0&&(1:Int)==1&&(sIx items.size items.size hi -sIx items.size 0 lo)==items.size)=true):=by
  intro q
  rw[Bool.and_eq_true,Bool.and_eq_true] at q
  have q1:((sIx items.size 0 lo:Nat):Int)=0:=eq_of_beq q.1.1
  have q2:sIx items.size items.size hi -sIx items.size 0 lo=items.size:=eq_of_beq q.2
  exact hw ⟨by omega,by omega⟩
 show wpAny _ _ (if(((sIx items.size 0 lo:Nat):Int)==0&&(1:Int)==1&&(sIx items.size items.size hi -sIx items.size 0 lo)==items.size)=true then _ else _) _ _ s
 rw[if_neg hno,zmV]
 first
  |exact wpAny_bind (m:=Builtin.Tuple.tupleExact _) (wpAny_newObj_type (wpAny_pure ⟨_,rfl,wpAny_pure h⟩) htake)
  |exact wpAny_bind (m:=Builtin.Tuple.tupleExact _) (wpAny_newObj_type (wpAny_bind (wpAny_pure (wpAny_pure ⟨_,rfl,wpAny_pure h⟩))) htake)
  |exact wpAny_bind (wpAny_bind (m:=Builtin.Tuple.tupleExact _) (wpAny_newObj_type (wpAny_pure (wpAny_pure ⟨_,rfl,wpAny_pure h⟩)) htake))
  |exact wpAny_bind (wpAny_bind (m:=Builtin.Tuple.tupleExact _) (wpAny_newObj_type (wpAny_pure ⟨_,rfl,wpAny_pure h⟩) htake))
end
end HT
namespace L2
open PySem PySem.Spec PyProof.Rows
noncomputable abbrev TO:=St->Hp->(Option Int->Hp->Prop)->Prop
def PO(X:Cx)(e:Option Expr)(t:TO):Prop:=
 ∀(pins:List (Addr×Obj)) (s:Shared) (σ:St) (H:Hp) (Q:Option Int->Hp->Prop),Inv X pins σ H s->t σ H Q->
  wpAny (model X.prog X.w) X.A (evalPart e X.env) (λu s'=>∃o H',Inv X pins σ H' s'/\IsPart u o/\Q o H') X.xe s
noncomputable def zhm:TO:=λ_ H Q=>Q none H
noncomputable def zoX(t:TE):TO:=λσ H Q=>t σ H λx H1=>∃i,x= .int i/\Q (some i) H1
section
variable{X:Cx}{e:Expr}{te:TE}{lo hi:Option Expr}{tl th:TO}{pos p2:Pos}
theorem zor:PO X none zhm:=by
 intro pins s σ H Q I h
 rw[evalPart_none]
 exact wpAny_pure ⟨none,H,I, .none,h⟩
theorem znl(h:PE X e te):PO X (some e) (zoX te):=by
 intro pins s σ H Q I hw
 rw[evalPart_some]
 refine thn (h pins s σ H _ I hw) λu s1 ⟨x,H1,I1,r1,q1⟩=>?_
 obtain⟨i,rfl,q⟩:=q1
 obtain⟨t,rfl⟩:=r1
 exact⟨some i,H1,I1, .int i t,q⟩
def SlR(X:Cx)(r:V->Option Int->Option Int->Hp->VK->Prop):Prop:=
 ∀(pins:List (Addr×Obj)) (s:Shared) (σ:St) (H:Hp) (x:V) (v vl vu:Value) (lo hi:Option Int) (sl:Addr) (Q:VK),Inv X pins σ H s->RelV x v->s.heap.IsSliceOf sl vl vu .none->IsPart vl lo->IsPart vu hi->r x lo hi H Q->
  ∃T id,typeLookup (.type T) "__getitem__"=pure (some (.builtin id))/\s.TypeIs v T/\wpAny (model X.prog X.w) X.A (getItem v (.ref sl)) (EP X pins σ Q) X.xe s
def tSl(r:V->Option Int->Option Int->Hp->VK->Prop)(te:TE)(tl th:TO):TE:=λσ H Q=>te σ H λx H1=>tl σ H1 λl H2=>th σ H2 λu H3=>r x l u H3 Q
theorem zlH{r:V->Option Int->Option Int->Hp->VK->Prop}(hr:SlR X r)(he:PE X e te)(hl:PO X lo tl)(hu:PO X hi th):PE X (.Subscript e (.Slice lo hi none p2) pos) (tSl r te tl th):=by
 intro pins s σ H Q I h
 refine Subscript_ (thn (he pins s σ H _ I h) λv s1 ⟨x,H1,I1,r1,q1⟩=>?_)
 refine wpAny_Slice (thn (hl pins s1 σ H1 _ I1 q1) λvl s2 ⟨l,H2,I2,pl,q2⟩=>thn (hu pins s2 σ H2 _ I2 q2) λvu s3 ⟨u,H3,I3,pu,q3⟩=>?_)
 rw[evalPart_none]
 refine wpAny_pure ?_
 have I4:Inv X pins σ H3 {s3 with heap:=s3.heap.push {cls:= .type "slice",data:= .fields #[vl,vu, .none]}}:=I3.kept (t':=s3.toks) λb ob q=>Heap.get?_push_of_some _ q
 obtain⟨T,id,hT,ht,hg⟩:=hr pins {s3 with heap:=s3.heap.push {cls:= .type "slice",data:= .fields #[vl,vu, .none]}} σ H3 x v vl vu l u s3.heap.objs.size Q I4 r1 (Heap.IsSliceOf.new ..) pl pu q3
 show wpAny (model X.prog X.w) X.A (subscriptTail e (.Slice lo hi none p2) v (.ref s3.heap.objs.size)) (EP X pins σ Q) X.xe {s3 with heap:=s3.heap.push {cls:= .type "slice",data:= .fields #[vl,vu, .none]}}
 exact tail_any (ops:=[.ref s3.heap.objs.size,v]) ht hT hg (by with_unfolding_all rfl)
noncomputable def zcp(xs:List V)(lo hi:Option Int):List V:=(xs.drop (HT.sIx xs.length 0 lo)).take (HT.sIx xs.length xs.length hi -HT.sIx xs.length 0 lo)
theorem zeP(xs:List V)(lo hi:Option Int):(zcp xs lo hi).length<=xs.length:=by
 unfold zcp
 rw[List.length_take,List.length_drop]
 omega
def zqS(K:PySem.W.Frag):V->Option Int->Option Int->Hp->VK->Prop:=λx lo hi H Q=>∃a xs,x= .ref a/\SqT K H a xs/\
 ¬(HT.sIx xs.length 0 lo=0/\HT.sIx xs.length xs.length hi=xs.length)/\∀p,H p=none->Q (.ref p) (upd H p (.tup (zcp xs lo hi)))
theorem zp6:SlR X (zqS X.K):=by
 intro pins s σ H x v vl vu lo hi sl Q I rx hs pl pu h
 obtain⟨a,xs,rfl,hx,hw,q⟩:=h
 cases rx
 obtain⟨its,r,ht,hz⟩:=I.tuple hx
 have hlen:its.toArray.size=xs.length:=by rw[List.size_toArray];exact r.length.symm
 refine⟨"tuple",_,PyProof.Rows.slot_tuple_getitem.lookup,ht.typeIs,?_⟩
 refine HT.getItem_tuple_cut ht hs pl pu (by rw[hlen];exact hw) ?_ (by rw[hlen];exact hz)
 rw[hlen]
 refine⟨.ref s.heap.objs.size,_,I.laid (t':=s.toks) (o:= .tup (zcp xs lo hi)) (λb ob q=>Heap.get?_push_of_some _ q) (Nat.le_refl _) ?_,rfl,q _ (I.hok.fresh (Nat.le_refl _))⟩
 exact⟨Nat.le_trans (zeP xs lo hi) hz,_,(r.drop (HT.sIx xs.length 0 lo)).take (HT.sIx xs.length xs.length hi -HT.sIx xs.length 0 lo),IsTup.new _ _,NoDict.new rfl (Heap.get?_push_size _ rfl)⟩
noncomputable def zqn(K:PySem.W.Frag):R2:=λx y H Q=>∃a b xs ys,x= .ref a/\y= .ref b/\SqT K H a xs/\SqT K H b ys/\xs≠ []/\xs.length+ys.length<=sizeLine/\
 (ys=[]->Q (.ref a) H)/\(ys≠ []->∀p,H p=none->Q (.ref p) (upd H p (.tup (xs ++ys))))
theorem Vals.nil_iff{xs:List V}{us:List Value}(r:Vals xs us):us=[]↔xs=[]:=by
 cases r with
 |nil=>simp
 |cons _ _=>simp
theorem zn7:OpR X (binaryOp .Add) (zqn X.K):=by
 intro pins s σ H x y v u Q I rx ry h
 obtain⟨a,b,xs,ys,rfl,rfl,ha,hb,hx,hz,q1,q2⟩:=h
 cases rx
 cases ry
 obtain⟨its,r1,p1,_⟩:=I.tuple ha
 obtain⟨its2,r2,p2,_⟩:=I.tuple hb
 refine HT.cat_tup p1 p2 (λz=>hx (r1.nil_iff.mp z)) (λz=>⟨.ref a,H,I,rfl,q1 (r2.nil_iff.mp z)⟩) (λz=>?_) (by rw[←r1.length,←r2.length];exact hz)
 refine⟨.ref s.heap.objs.size,_,I.laid (t':=s.toks) (o:= .tup (xs ++ys)) (λb ob q=>Heap.get?_push_of_some _ q) (Nat.le_refl _) ?_,rfl,q2 (λw=>z (r2.nil_iff.mpr w)) _ (I.hok.fresh (Nat.le_refl _))⟩
 exact⟨by rw[List.length_append];exact hz,_,r1.append r2,IsTup.new _ _,NoDict.new rfl (Heap.get?_push_size _ rfl)⟩
end
noncomputable def ixN(n:Nat)(i:Int):Option Nat:=if 0<=i then(if i<n then some i.toNat else none)else if -(n:Int)<=i then some (i+n).toNat else none
noncomputable def atI{α:Type}(xs:List α)(i:Int):Option α:=(ixN xs.length i).bind λj=>xs[j]?
theorem zki{n:Nat}{i:Int}{j:Nat}(h:ixN n i=some j):seqIndex? i n=some j/\j<n/\-(n:Int)<=i/\i<n:=by
 unfold ixN at h
 by_cases h0:0<=i
 ·rw[if_pos h0] at h
  by_cases h1:i<n
  ·rw[if_pos h1] at h
   have e:i.toNat=j:=Option.some.inj h
   exact⟨by rw[seqIndex_of h0 h1,e],by omega,by omega,h1⟩
  ·rw[if_neg h1] at h;cases h
 ·rw[if_neg h0] at h
  by_cases h1: -(n:Int)<=i
  ·rw[if_pos h1] at h
   have e:(i+n).toNat=j:=Option.some.inj h
   exact⟨by rw[seqIndex_neg (by omega) h1,e],by omega,h1,by omega⟩
  ·rw[if_neg h1] at h;cases h
theorem zhl{α:Type}{xs:List α}{i:Int}{v:α}(h:atI xs i=some v):∃j,seqIndex? i xs.length=some j/\xs[j]?=some v/\j<xs.length/\-(xs.length:Int)<=i/\i<xs.length:=by
 unfold atI at h
 cases e:ixN xs.length i with
 |none=>rw[e] at h;cases h
 |some j=>
  rw[e] at h
  obtain⟨h1,h2,h3,h4⟩:=zki e
  exact⟨j,h1,h,h2,h3,h4⟩
theorem zI{α:Type}{xs:List α}{j:Nat}{v:α}(h:xs[j]?=some v):atI xs (j:Int)=some v:=by
 have hj:j<xs.length:=(List.getElem?_eq_some_iff.mp h).1
 have e:ixN xs.length (j:Int)=some j:=by
  unfold ixN
  rw[if_pos (by omega),if_pos (by omega)];simp
 unfold atI;rw[e];exact h
theorem zlV{α:Type}(xs:List α)(v:α):atI (xs ++ [v]) (-1)=some v:=by
 have hl:(xs ++ [v]).length=xs.length+1:=by simp
 have e:ixN (xs ++ [v]).length (-1)=some xs.length:=by
  unfold ixN
  rw[hl,if_neg (by decide),if_pos (by omega)]
  congr 1
  omega
 unfold atI
 rw[e]
 show(xs ++ [v])[xs.length]?=some v
 simp
def zjY(b:Expr):Prop:=∀o i,subscripted b false o i=operate [o,i] (getItem o i)
def IxR(X:Cx)(r:R2):Prop:=
 ∀(value slice:Expr) (pins:List (Addr×Obj)) (s:Shared) (σ:St) (H:Hp) (x y:V) (v u:Value) (Q:VK),Inv X pins σ H s->RelV x v->RelV y u->r x y H Q->
  subscripted slice false v u=operate [v,u] (getItem v u)->wpAny (model X.prog X.w) X.A (subscriptTail value slice v u) (EP X pins σ Q) X.xe s
def MtR(X:Cx)(id:String)(r:V->List V->Hp->VK->Prop):Prop:=
 ∀(pins:List (Addr×Obj)) (s:Shared) (σ:St) (H:Hp) (x:V) (xs:List V) (v:Value) (us:List Value) (Q:VK),Inv X pins σ H s->RelV x v->Vals xs us->r x xs H Q->
  wpAny (model X.prog X.w) X.A (call (.builtin id) (v::us)) (EP X pins σ Q) X.xe s
section
variable{X:Cx}{a b:Expr}{ta tb:TE}{pos:Pos}
theorem IxR.or{r r':R2}(h:IxR X r)(h':IxR X r'):IxR X (λx y H Q=>r x y H Q\/r' x y H Q):=by
 intro value slice pins s σ H x y v u Q I rx ry q hs
 rcases q with q|q
 ·exact h value slice pins s σ H x y v u Q I rx ry q hs
 ·exact h' value slice pins s σ H x y v u Q I rx ry q hs
theorem zqd{r:R2}(hr:IxR X r)(ha:PE X a ta)(hb:PE X b tb)(hs:zjY b):PE X (.Subscript a b pos) (tOp r ta tb):=by
 intro pins s σ H Q I h
 exact Subscript_ (zpA ha hb I h λv u s2 x y H2 I2 rx ry q=>hr a b pins s2 σ H2 x y v u Q I2 rx ry q (hs _ _))
noncomputable def zqb(K:PySem.W.Frag):R2:=λx y H Q=>∃p xs i v,x= .ref p/\y= .int i/\SqL K H p xs/\atI xs i=some v/\Q v H
noncomputable def zpp(K:PySem.W.Frag):R2:=λx y H Q=>∃p xs i v,x= .ref p/\y= .int i/\SqT K H p xs/\atI xs i=some v/\Q v H
noncomputable def zqI:R2:=λx y H Q=>∃z i c,x= .str z/\y= .int i/\z.length<=sizeLine/\atI z.cps.toList i=some c/\Q (.str ⟨#[c]⟩) H
theorem ix_list:IxR X (zqb X.K):=by
 intro value slice pins s σ H x y v u Q I rx ry h hs
 obtain⟨p,xs,i,z,rfl,rfl,hq,he,q⟩:=h
 cases rx
 obtain⟨t,rfl⟩:=ry
 obtain⟨its,r,pl,hz⟩:=I.list hq
 obtain⟨j,h1,h2,h3,h4,h5⟩:=zhl he
 obtain⟨w,ew,rw'⟩:=r.get h2
 have hl:=r.length
 have hn:=zdM
 have fin:EP X pins σ Q w s:=⟨z,H,I,rw',q⟩
 by_cases h0:0<=i
 ·have hj:i.toNat=j:=by
   rw[seqIndex_of h0 h5] at h1
   exact Option.some.inj h1
  exact item_listR pl.isList h0 (by omega) (by rw[hj];simpa using ew) fin hs
 ·have hj:(i+(its.toArray.size:Int)).toNat=j:=by
   rw[seqIndex_neg (by omega) h4] at h1
   rw[List.size_toArray,←hl]
   exact Option.some.inj h1
  exact subscriptTail_builtinR (x:=w) pl.isList.typeIs slot_list_getitem.lookup
   (wpAny_getItem_list_neg (Q:=λr s'=>r=w/\EP X pins σ Q r s') pl.isList (by omega) (by rw[List.size_toArray]<;>omega) (by omega) (by rw[hj];simpa using ew) ⟨rfl,fin⟩) hs
theorem ix_tup:IxR X (zpp X.K):=by
 intro value slice pins s σ H x y v u Q I rx ry h hs
 obtain⟨p,xs,i,z,rfl,rfl,hq,he,q⟩:=h
 cases rx
 obtain⟨t,rfl⟩:=ry
 obtain⟨its,r,pl,hz⟩:=I.tuple hq
 obtain⟨j,h1,h2,h3,h4,h5⟩:=zhl he
 obtain⟨w,ew,rw'⟩:=r.get h2
 have hl:=r.length
 have hn:=zdM
 have fin:EP X pins σ Q w s:=⟨z,H,I,rw',q⟩
 exact subscriptTail_builtinR (x:=w) pl.typeIs slot_tuple_getitem.lookup
  (getItem_tuple (j:=j) (Q:=λr s'=>r=w/\EP X pins σ Q r s') pl (by omega) (by omega) (by rw[List.size_toArray,←hl];exact h1) (by simpa using ew) ⟨rfl,fin⟩) hs
theorem zmc:IxR X zqI:=by
 intro value slice pins s σ H x y v u Q I rx ry h hs
 obtain⟨z,i,c,rfl,rfl,hz,he,q⟩:=h
 obtain⟨t,rfl⟩:=rx
 obtain⟨t',rfl⟩:=ry
 obtain⟨j,h1,h2,h3,h4,h5⟩:=zhl he
 have hl:z.cps.toList.length=z.length:=by simp[Str.length]
 rw[hl] at h1 h4 h5
 have hn:=zdM
 exact tail_any (typeIs_str s z t) slot_str_getitem.lookup (getItem_str (c:=c) (by
  have e1:decide (i< -(2^63:Int))=false:=decide_eq_false (by omega)
  have e2:decide (i≥2^63)=false:=decide_eq_false (by omega)
  rw[e1,e2,Bool.or_false]) (by rw[h1];simpa using h2) ⟨.str ⟨#[c]⟩,H,I.tok _,⟨_,rfl⟩,q⟩) hs
noncomputable def rIx(K:PySem.W.Frag):R2:=λx y H Q=>zqb K x y H Q\/zpp K x y H Q\/zqI x y H Q
theorem zmX:IxR X (rIx X.K):=ix_list.or (ix_tup.or zmc)
theorem zjG(its:List Value)(n j:Nat)(u:Value):Obj.mapSeq (·.setIfInBounds j u) {cls:= .type "list",data:= .seq its.toArray n}={cls:= .type "list",data:= .seq (its.set j u).toArray n}:=by
 simp[Obj.mapSeq]
theorem Inv.lst{pins:List (Addr×Obj)}{σ:St}{H:Hp}{s:Shared}{p:Addr}{xs:List V}(I:Inv X pins σ H s)(h:H p=some (.lst xs)):
 ∃(its:List Value) (n:Nat),Vals xs its/\s.heap.get? p=some {cls:= .type "list",data:= .seq its.toArray n}/\xs.length<=sizeLine:=by
 obtain⟨z,its,n,r,e⟩:=I.hok p _ h
 exact⟨its,n,r,e,z⟩
theorem Inv.lstUpd{pins:List (Addr×Obj)}{σ:St}{H:Hp}{s:Shared}{p:Addr}{xs ys:List V}{its its':List Value}{n n':Nat}{f:Obj->Obj}(I:Inv X pins σ H s)(h:H p=some (.lst xs))
 (ho:s.heap.get? p=some {cls:= .type "list",data:= .seq its.toArray n}) (hf:f {cls:= .type "list",data:= .seq its.toArray n}={cls:= .type "list",data:= .seq its'.toArray n'}) (r:Vals ys its') (hz:ys.length<=sizeLine) (t:Nat):
 Inv X pins σ (upd H p (.lst ys)) {s with heap:=s.heap.update p f,toks:=t}:=by
 have e:(s.heap.update p f).get? p=some {cls:= .type "list",data:= .seq its'.toArray n'}:=by
  rw[Heap.get?_update_self f ho (by rw[hf]<;>rfl),hf]
 refine I.write (x:=p) (e:=p) (by rw[h];trivial) (.inl rfl) (λb u hb q=>(Heap.get?_update_other _ _ (Ne.symm hb)).trans q) ⟨_,e⟩ ?_
 exact⟨hz,its',n',r,e⟩
def zqs:V->V->V->Hp->(Hp->Prop)->Prop:=λo i v H Q=>∃p xs k j,o= .ref p/\i= .int k/\H p=some (.lst xs)/\ixN xs.length k=some j/\Q (upd H p (.lst (xs.set j v)))
theorem zdl:zpQ X zqs:=by
 intro pins s σ H o i v ov iv u Q I ro ri rv h
 obtain⟨p,xs,k,j,rfl,rfl,hp,hj,q⟩:=h
 cases ro
 obtain⟨t,rfl⟩:=ri
 obtain⟨its,n,r,ho,hz⟩:=I.lst hp
 obtain⟨h1,h2,h3,h4⟩:=zki hj
 have hl:=r.length
 have hn:=zdM
 have I':Inv X pins σ (upd H p (.lst (xs.set j v))) {s with heap:=s.heap.update p (Obj.mapSeq (·.setIfInBounds j u))}:=
  I.lstUpd hp ho (zjG its n j u) (r.set rv j) (by rw[List.length_set];exact hz) s.toks
 by_cases h0:0<=k
 ·have hk:k.toNat=j:=by
   rw[seqIndex_of h0 h4] at h1
   exact Option.some.inj h1
  exact PySem.W.ki_setAt ho h0 (by omega) (by rw[List.size_toArray,←hl];exact h4) (by rw[hk];exact⟨_,I',q⟩)
 ·have hk:(k+(its.toArray.size:Int)).toNat=j:=by
   rw[seqIndex_neg (by omega) h3] at h1
   rw[List.size_toArray,←hl]
   exact Option.some.inj h1
  exact PySem.W.ki_setBack ho (by omega) (by rw[List.size_toArray,←hl];exact h3) (by omega) (by rw[hk];exact⟨_,I',q⟩)
theorem zhi(lo hi:Option Int)(n:Nat):(sliceBounds lo hi none n).1=((HT.sIx n 0 lo:Nat):Int)/\(sliceBounds lo hi none n).2.1=((HT.sIx n n hi:Nat):Int)/\(sliceBounds lo hi none n).2.2=1:=by
 refine⟨?_,?_,rfl⟩
 ·cases lo with
  |none=>simp[sliceBounds,HT.sIx]
  |some i=>
   simp only[sliceBounds,HT.sIx,Option.getD_none,show(1:Int)>0 by decide,if_true]
   by_cases h:i<0
   ·simp only[h,if_true]<;>omega
   ·simp only[h,if_false]<;>omega
 ·cases hi with
  |none=>simp[sliceBounds,HT.sIx]
  |some i=>
   simp only[sliceBounds,HT.sIx,Option.getD_none,show(1:Int)>0 by decide,if_true]
   by_cases h:i<0
   ·simp only[h,if_true]<;>omega
   ·simp only[h,if_false]<;>omega
theorem zgd(its:List Value)(lo hi:Option Int):slicePick its.toArray lo hi none=((its.drop (HT.sIx its.length 0 lo)).take (HT.sIx its.length its.length hi -HT.sIx its.length 0 lo)).toArray:=by
 obtain⟨h1,h2,h3⟩:=zhi lo hi its.toArray.size
 unfold slicePick
 rw[h1,h2,h3]
 simp only[sliceRange_one,pick_run,List.size_toArray]<;>rfl
def zq6(K:PySem.W.Frag):V->Option Int->Option Int->Hp->VK->Prop:=λx lo hi H Q=>∃a xs,x= .ref a/\SqL K H a xs/\∀p,H p=none->Q (.ref p) (upd H p (.lst (zcp xs lo hi)))
theorem zj6:SlR X (zq6 X.K):=by
 intro pins s σ H x v vl vu lo hi sl Q I rx hs pl pu h
 obtain⟨a,xs,rfl,hx,q⟩:=h
 cases rx
 obtain⟨its,r,ht,hz⟩:=I.list hx
 have hlen:=r.length
 refine⟨"list",_,slot_list_getitem.lookup,ht.isList.typeIs,?_⟩
 refine wpAny_getItem_list_slice ht.isList hs pl pu .none (by simp) ?_ (by rw[List.size_toArray]<;>omega)
 rw[zgd,←hlen]
 refine⟨.ref s.heap.objs.size,_,I.laid (t':=s.toks) (o:= .lst (zcp xs lo hi)) (λb ob q=>Heap.get?_push_of_some _ q) (Nat.le_refl _) ?_,rfl,q _ (I.hok.fresh (Nat.le_refl _))⟩
 exact⟨Nat.le_trans (zeP xs lo hi) hz,_,0,(r.drop (HT.sIx xs.length 0 lo)).take (HT.sIx xs.length xs.length hi -HT.sIx xs.length 0 lo),Heap.get?_push_size _ rfl⟩
noncomputable def zd6:V->Bool
 | .non=>true
 | .bl _=>true
 | .int _=>true
 | .str _=>true
 |_=>false
noncomputable def eqV:V->V->Bool
 | .non, .non=>true
 | .bl a, .bl b=>a==b
 | .bl a, .int b=>(if a then 1 else 0)==b
 | .int a, .bl b=>a==(if b then 1 else 0)
 | .int a, .int b=>a==b
 | .str a, .str b=>a==b
 |_,_=>false
theorem zpu{A:Around}{s:Shared}{y x:V}{u v:Value}(ry:RelV y u)(rx:RelV x v)(fy:zd6 y=true)(fx:zd6 x=true):SeqAt.EqAt A s u v (eqV y x):=by
 cases y with
 |non=>
  cases ry
  cases x with
  |non=>cases rx;exact SeqAt.EqAt.same _
  |bl b=>cases rx;exact SeqAt.EqAt.none_bool b
  |int b=>obtain ⟨t,rfl⟩:=rx;exact SeqAt.EqAt.none_int b t
  |str b=>obtain ⟨t,rfl⟩:=rx;exact SeqAt.EqAt.none_str b t
  |_=>exact absurd (show false=true from fx) Bool.false_ne_true
 |bl a=>
  cases ry
  cases x with
  |non=>cases rx;exact SeqAt.EqAt.bool_none a
  |bl b=>cases rx;exact SeqAt.EqAt.bool_bool a b
  |int b=>obtain ⟨t,rfl⟩:=rx;exact SeqAt.EqAt.bool_int a b t
  |str b=>obtain ⟨t,rfl⟩:=rx;exact SeqAt.EqAt.bool_str a b t
  |_=>exact absurd (show false=true from fx) Bool.false_ne_true
 |int a=>
  obtain⟨t',rfl⟩:=ry
  cases x with
  |non=>cases rx;exact SeqAt.EqAt.int_none a t'
  |bl b=>cases rx;exact SeqAt.EqAt.int_bool a t' b
  |int b=>obtain ⟨t,rfl⟩:=rx;exact SeqAt.EqAt.int_int a t' b t
  |str b=>obtain ⟨t,rfl⟩:=rx;exact SeqAt.EqAt.int_str a t' b t
  |_=>exact absurd (show false=true from fx) Bool.false_ne_true
 |str a=>
  obtain⟨t',rfl⟩:=ry
  cases x with
  |non=>cases rx;exact SeqAt.EqAt.str_none a t'
  |bl b=>cases rx;exact SeqAt.EqAt.str_bool a t' b
  |int b=>obtain ⟨t,rfl⟩:=rx;exact SeqAt.EqAt.str_int a t' b t
  |str b=>obtain ⟨t,rfl⟩:=rx;exact SeqAt.EqAt.str_str a t' b t
  |_=>exact absurd (show false=true from fx) Bool.false_ne_true
 |_=>exact absurd (show false=true from fy) Bool.false_ne_true
noncomputable def eqU(x:V)(u:Value):Bool:=match u with
 | .none=>eqV .non x
 | .bool b=>eqV (.bl b) x
 | .int i _=>eqV (.int i) x
 | .str z _=>eqV (.str z) x
 |_=>false
theorem zmI{x y:V}{u:Value}(r:RelV y u)(f:zd6 y=true):eqU x u=eqV y x:=by
 cases y with
 |non=>cases r;rfl
 |bl b=>cases r;rfl
 |int i=>obtain ⟨t,rfl⟩:=r;rfl
 |str z=>obtain ⟨t,rfl⟩:=r;rfl
 |_=>exact absurd (show false=true from f) Bool.false_ne_true
theorem zdY{x:V}:∀{xs:List V} {us:List Value},Vals xs us->xs.all zd6=true->us.any (eqU x)=xs.any λy=>eqV y x
 |_,_, .nil,_=>rfl
 |y::xs,u::us, .cons r t,f=>by
  rw[List.all_cons,Bool.and_eq_true] at f
  rw[List.any_cons,List.any_cons,zmI r f.1,zdY t f.2]
theorem zdr{A:Around}{s:Shared}{x:V}{v:Value}(rx:RelV x v)(fx:zd6 x=true):∀{xs:List V} {us:List Value},Vals xs us->xs.all zd6=true->∀u∈us,SeqAt.EqAt A s u v (eqU x u)
 |_,_, .nil,_=>λu hu=>by cases hu
 |y::xs,u::us, .cons r t,f=>λu' hu=>by
  rw[List.all_cons,Bool.and_eq_true] at f
  rcases List.mem_cons.mp hu with rfl|hu
  ·rw[zmI r f.1];exact zpu r rx f.1 fx
  ·exact zdr rx fx t f.2 u' hu
noncomputable def inV(x:V)(xs:List V):Bool:=xs.any λy=>eqV y x
noncomputable def rIn(K:PySem.W.Frag)(neg:Bool):R2:=λx y H Q=>∃p xs,y= .ref p/\(SqL K H p xs\/SqT K H p xs)/\zd6 x=true/\xs.all zd6=true/\Q (.bl (if neg then !inV x xs else inV x xs)) H
theorem zeo:OpR X (compareOp .In) (rIn X.K false):=by
 intro pins s σ H x y v u Q I rx ry h
 obtain⟨p,xs,rfl,hq,fx,fs,q⟩:=h
 cases ry
 rcases hq with hq|hq
 ·obtain ⟨its,r,pl,hz⟩:=I.list hq
  refine SeqAt.in_listAt (eqU x) pl.isList (λw hw=>zdr rx fx r fs w (by simpa using hw)) ⟨.bl _,H,I,rfl,?_⟩
  rw[show its.toArray.any (eqU x)=its.any (eqU x) by simp,zdY r fs]
  exact q
 ·obtain ⟨its,r,pl,hz⟩:=I.tuple hq
  refine SeqAt.in_tupleAt (eqU x) pl (λw hw=>zdr rx fx r fs w (by simpa using hw)) ⟨.bl _,H,I,rfl,?_⟩
  rw[show its.toArray.any (eqU x)=its.any (eqU x) by simp,zdY r fs]
  exact q
theorem zd3:OpR X (compareOp .NotIn) (rIn X.K true):=by
 intro pins s σ H x y v u Q I rx ry h
 obtain⟨p,xs,rfl,hq,fx,fs,q⟩:=h
 cases ry
 rcases hq with hq|hq
 ·obtain ⟨its,r,pl,hz⟩:=I.list hq
  refine SeqAt.notIn_listAt (eqU x) pl.isList (λw hw=>zdr rx fx r fs w (by simpa using hw)) ⟨.bl _,H,I,rfl,?_⟩
  rw[show its.toArray.any (eqU x)=its.any (eqU x) by simp,zdY r fs]
  exact q
 ·obtain ⟨its,r,pl,hz⟩:=I.tuple hq
  refine SeqAt.notIn_tupleAt (eqU x) pl (λw hw=>zdr rx fx r fs w (by simpa using hw)) ⟨.bl _,H,I,rfl,?_⟩
  rw[show its.toArray.any (eqU x)=its.any (eqU x) by simp,zdY r fs]
  exact q
theorem call_len_seq:CallR X (.builtin "len") (λxs H Q=>∃p ys,xs=[.ref p]/\(SqL X.K H p ys\/SqT X.K H p ys)/\Q (.int ys.length) H):=by
 intro pins s σ H xs us Q I r h
 obtain⟨p,ys,rfl,hq,q⟩:=h
 obtain⟨u,rfl,rx⟩:=zc8 r
 cases rx
 have hn:=zdM
 rcases hq with hq|hq
 ·obtain ⟨its,r',pl,hz⟩:=I.list hq
  have hlen:=r'.length
  exact Calls.call_len_list pl.isList (by simp only[List.size_toArray]<;>omega) ⟨.int ys.length,H,I.tok _,⟨s.toks+1,by rw[List.size_toArray,hlen]⟩,q⟩
 ·obtain ⟨its,r',pl,hz⟩:=I.tuple hq
  have hlen:=r'.length
  exact len_tuple pl (by simp only[List.size_toArray]<;>omega) ⟨.int ys.length,H,I.tok _,⟨s.toks+1,by rw[List.size_toArray,hlen]⟩,q⟩
theorem zhq:CallR X (.builtin "len") (λxs H Q=>∃z,xs=[.str z]/\z.length<=sizeLine/\Q (.int z.length) H):=by
 intro pins s σ H xs us Q I r h
 obtain⟨z,rfl,hz,q⟩:=h
 obtain⟨u,rfl,t,rfl⟩:=zc8 r
 have hn:=zdM
 exact len_str (by omega) ⟨.int z.length,H,I.tok _,⟨_,rfl⟩,q⟩
theorem CallR.or{f:Value}{r r':List V->Hp->VK->Prop}(h:CallR X f r)(h':CallR X f r'):CallR X f (λxs H Q=>r xs H Q\/r' xs H Q):=by
 intro pins s σ H xs us Q I rs q
 rcases q with q|q
 ·exact h pins s σ H xs us Q I rs q
 ·exact h' pins s σ H xs us Q I rs q
theorem zV:CallR X (.type "tuple") (λxs H Q=>∃p ys,xs=[.ref p]/\((SqL X.K H p ys/\∀l,H l=none->Q (.ref l) (upd H l (.tup ys)))\/(SqT X.K H p ys/\Q (.ref p) H))):=by
 intro pins s σ H xs us Q I r h
 obtain⟨p,ys,rfl,h⟩:=h
 obtain⟨u,rfl,rx⟩:=zc8 r
 cases rx
 rcases h with⟨hq,q⟩|⟨hq,q⟩
 ·obtain ⟨its,r',pl,hz⟩:=I.list hq
  have hlen:=r'.length
  refine call_tuple_list pl.isList (λh' kp=>?_) (by simp only[List.size_toArray]<;>omega)
  have I1:Inv X pins σ H {s with heap:=h'}:=I.kept (t':=s.toks) kp
  have I2:Inv X pins σ (upd H h'.objs.size (.tup ys)) {s with heap:=h'.push {cls:= .type "tuple",data:= .seq its.toArray}}:=
   I1.laid (t':=s.toks) (λb o e=>Heap.get?_push_of_some _ e) (Nat.le_refl _) (show ObjOk X.prog X.w _ _ _ (.tup ys)from⟨hz,its,r',IsTup.new _ _,NoDict.new rfl (Heap.get?_push_size _ rfl)⟩)
  exact⟨.ref h'.objs.size,_,I2,rfl,q _ (I1.hok.fresh (Nat.le_refl _))⟩
 ·obtain ⟨its,r',pl,hz⟩:=I.tuple hq
  exact call_tuple_same pl ⟨.ref p,H,I,rfl,q⟩
def tyV(K:PySem.W.Frag)(T:String)(x:V)(H:Hp):Prop:=match x with
 | .str _=>T="str"
 | .int _=>T="int"
 | .ref p=>(T="list"/\∃xs,SqL K H p xs)\/(T="tuple"/\∃o,K.lookup p=some o/\o.cls= .type "tuple"/\o.dict=none)\/
    (T="dict"/\((∃kvs,H p=some (.dK kvs))\/∃kvs,H p=some (.dT kvs)))\/(T="set"/\∃S n,H p=some (.set S n))\/(T="tuple"/\∃xs,H p=some (.tup xs))
 |_=>False
theorem zpY{pins:List (Addr×Obj)}{σ:St}{H:Hp}{s:Shared}{T:String}{x:V}{v:Value}(I:Inv X pins σ H s)(r:RelV x v)(ty:tyV X.K T x H):
 s.TypeIs v T/\∀a,v= .ref a->∃ob,s.heap.get? a=some ob/\ob.dict=none:=by
 cases x with
 |str z=>
  obtain⟨t,rfl⟩:=r
  cases(show T="str"from ty)
  exact⟨typeIs_str s z t,λ_ e=>nomatch e⟩
 |int i=>
  obtain⟨t,rfl⟩:=r
  cases(show T="int"from ty)
  exact⟨typeIs_int s i t,λ_ e=>nomatch e⟩
 |ref p=>
  cases r
  rcases ty with⟨rfl,xs,hq⟩|⟨rfl,o,hk,hc,hd⟩|⟨rfl,hk⟩|⟨rfl,S,n,hk⟩|⟨rfl,xs,hk⟩
  ·obtain ⟨its,_,pl,_⟩:=I.list hq
   refine⟨pl.isList.typeIs,λa e=>?_⟩
   cases e
   obtain⟨o,n,e,c,hd,_⟩:=pl
   exact⟨o,e,hd⟩
  ·refine ⟨⟨o,I.kIn p o hk,hc⟩,λa e=>?_⟩
   cases e
   exact⟨o,I.kIn _ o hk,hd⟩
  ·have z:∃o,s.heap.get? p=some o/\o.ExactDict:=by
    rcases hk with⟨kvs,hk⟩|⟨kvs,hk⟩
    ·obtain ⟨_,_,_,_,o,_,_,e,ex,_⟩:=I.hok p _ hk
     exact⟨o,e,ex⟩
    ·obtain ⟨_,_,_,_,o,_,_,e,ex,_⟩:=I.hok p _ hk
     exact⟨o,e,ex⟩
   obtain⟨o,e,ex⟩:=z
   refine⟨⟨o,e,ex.1⟩,λa e2=>?_⟩
   cases e2
   exact⟨o,e,ex.2.1⟩
  ·obtain ⟨o,_,_,_,e,ex,_⟩:=I.hok p _ hk
   refine⟨⟨o,e,ex.1⟩,λa e2=>?_⟩
   cases e2
   exact⟨o,e,ex.2.1⟩
  ·obtain ⟨_,_,_,⟨o,e,c,_⟩,nd⟩:=I.hok p _ hk
   refine⟨⟨o,e,c⟩,λa e2=>?_⟩
   cases e2
   exact⟨o,e,nd o e⟩
 |_=>exact False.elim ty
def tBM(K:PySem.W.Frag)(T:String)(r:V->List V->Hp->VK->Prop)(to:TE)(t:TA):TE:=λσ H Q=>to σ H λx H1=>tyV K T x H1/\t σ H1 λxs H2=>r x xs H2 Q
variable{o e:Expr}{es:List Expr}{to:TE}{t:TA}{name:Str}{apos cpos:Pos}{T id:String}{r:V->List V->Hp->VK->Prop}
theorem zqH(pa:PlainAttrs T)(slot:Slot T name id)(hty:typeOf (.builtin id)=pure (.type "method_descriptor"))(hm:MtR X id r)(ho:PE X o to)(ha:PA X (e::es) t)
 (hbase:attributeBase o name X.env (eval o X.env)=eval o X.env:=by rfl)
 (hfew:((backTo cpos (starEach (e::es) X.env)).all (λx=>!x.1)&&(backToKw cpos (keywordEach [] X.env)).all (λx=>x.1.isSome)
   &&decide ((e::es).length+([]:List Keyword).length+(if([]:List Keyword).isEmpty then 0 else 1)<30))=true:=by rfl)
 (hline:(apos.endLine==cpos.line)=true:=by rfl) (hs:starEach (e::es) X.env=(false,eval e X.env)::starEach es X.env:=by rfl) (hplain:(backTo cpos (starEach es X.env)).any (·.1)=false:=by rfl):
 PE X (.Call (.Attribute o name apos) (e::es) [] cpos) (tBM X.K T r to t):=by
 intro pins s σ H Q I h
 refine wpAny_Call_method_late hbase hfew hline rfl (thn (ho pins s σ H _ I h) λv s1 ⟨x,H1,I1,r1,ty,q1⟩=>?_)
 obtain⟨h1,h2⟩:=zpY I1 r1 ty
 refine⟨T,id,pa,slot,hty,h1,h2,?_⟩
 have hA:=ha cpos pins s1 σ H1 _ I1 q1
 rw[hs] at hA⊢
 refine Calls.callWith_builtin (by show(false||(backTo cpos (starEach es X.env)).any (·.1))=false;rw[hplain]<;>rfl) (Calls.evalArgs_plain ?_)
 exact thn hA λus s2 ⟨vs,H2,I2,r2,q2⟩=>hm pins s2 σ H2 x vs v us Q I2 r1 r2 q2
end
def MtM(X:Cx)(id:String)(r:V->List V->Hp->VK->Prop):Prop:=
 ∀(pins:List (Addr×Obj)) (s:Shared) (σ:St) (H:Hp) (x:V) (xs:List V) (v:Value) (us:List Value) (Q:VK),Inv X pins σ H s->RelV x v->Vals xs us->r x xs H Q->
  wpAny (model X.prog X.w) X.A (call (.builtin id) (v::us)) (EP X pins σ Q) X.xe s
theorem Vals.one:∀{x:V} {us:List Value},Vals [x] us->∃u,us=[u]/\RelV x u
 |_,_, .cons r .nil=>⟨_,rfl,r⟩
section
variable{X:Cx}{pins:List (Addr×Obj)}{σ:St}{H:Hp}{s:Shared}{l b:Addr}{xs ys zs:List V}
theorem Inv.lset{its its':List Value}{n:Nat}{f:Array Value->Array Value}{t':Nat}(I:Inv X pins σ H s)(hH:H l=some (.lst xs))
 (e:s.heap.get? l=some {cls:= .type "list",data:= .seq its.toArray n}) (hf:f its.toArray=its'.toArray) (hv:Vals ys its') (hz:ys.length<=sizeLine):
 Inv X pins σ (upd H l (.lst ys)) {s with heap:=s.heap.update l (Obj.mapSeq f),toks:=t'}:=by
 have q:=PySem.IsL.update e f
 rw[hf] at q
 refine I.write (x:=l) (e:=l) (by rw[hH];exact trivial) (.inl rfl) (λb' u hb hu=>(Heap.get?_update_other s.heap (Obj.mapSeq f) (Ne.symm hb)).trans hu) ⟨_,q⟩ ?_
 exact⟨hz,its',_,hv,q⟩
theorem Inv.lnew{its:List Value}{t':Nat}(I:Inv X pins σ H s)(hv:Vals ys its)(hz:ys.length<=sizeLine):
 Inv X pins σ (upd H s.heap.objs.size (.lst ys)) {s with heap:=s.heap.push {cls:= .type "list",data:= .seq its.toArray},toks:=t'}:=
 I.laid (λ_ _ q=>Heap.get?_push_of_some _ q) (Nat.le_refl _) ⟨hz,its,0,hv,Heap.get?_push_size _ rfl⟩
theorem Inv.fresh(I:Inv X pins σ H s):H s.heap.objs.size=none:=I.hok.fresh (Nat.le_refl _)
theorem Inv.lstM(I:Inv X pins σ H s)(hH:H l=some (.lst xs)):xs.length<=sizeLine/\∃(its:List Value) (n:Nat),Vals xs its/\xs.length=its.length/\s.heap.get? l=some {cls:= .type "list",data:= .seq its.toArray n}:=by
 obtain⟨z,its,n,r,e⟩:=I.hok l _ hH
 exact⟨z,its,n,r,r.length,e⟩
theorem zmk{n:Nat}(h:n<=sizeLine):Builtin.List.listTooLong n=false:=by
 unfold Builtin.List.listTooLong
 exact decide_eq_false (by omega)
end
section
variable{X:Cx}
def zop:V->List V->Hp->VK->Prop:=λx vs H Q=>∃l xs y,x= .ref l/\vs=[y]/\H l=some (.lst xs)/\xs.length<sizeLine/\Q .non (upd H l (.lst (xs ++ [y])))
theorem zaZ:MtM X "list.append" zop:=by
 intro pins s σ H x vs v us Q I rx rv h
 obtain⟨l,xs,y,rfl,rfl,hH,hz,q⟩:=h
 cases rx
 obtain⟨u,rfl,ru⟩:=rv.one
 obtain⟨z,its,n,r,hl,e⟩:=I.lstM hH
 refine call_meets F.slot_list_append ⟨_,e,rfl⟩ F.entry_list_append (F.args_list_append_2 _ _) (PySem.list_append l its.toArray n u (by rw[List.size_toArray];omega)) ⟨e,?_⟩
 refine⟨.non,_,I.lset (its':=its ++ [u]) hH e (by simp) (r.append (.cons ru .nil)) ?_,rfl,q⟩
 rw[List.length_append,List.length_singleton]
 omega
def zn2:V->List V->Hp->VK->Prop:=λx vs H Q=>∃l b xs zs,x= .ref l/\vs=[.ref b]/\H l=some (.lst xs)/\H b=some (.lst zs)/\xs.length+zs.length<=sizeLine/\Q .non (upd H l (.lst (xs ++zs)))
theorem zkK:MtM X "list.extend" zn2:=by
 intro pins s σ H x vs v us Q I rx rv h
 obtain⟨l,b,xs,zs,rfl,rfl,hH,hB,hz,q⟩:=h
 cases rx
 obtain⟨u,rfl,ru⟩:=rv.one
 cases ru
 obtain⟨z,its,n,r,hl,e⟩:=I.lstM hH
 obtain⟨z2,its2,n2,r2,hl2,e2⟩:=I.lstM hB
 have hsz:its.toArray.size+its2.toArray.size<=sizeLine:=by rw[List.size_toArray,List.size_toArray];omega
 have hlong:¬(!its.toArray.isEmpty&&Builtin.List.listTooLong (its.toArray.size+its2.toArray.size))=true:=by
  rw[zmk hsz,Bool.and_false]
  exact Bool.false_ne_true
 refine call_meets F.slot_list_extend ⟨_,e,rfl⟩ F.entry_list_extend (F.args_list_extend_2 _ _)
  (AutoSeq1.list_extend_list_list_0 l its.toArray n b its2.toArray n2 hlong (by rw[List.size_toArray];omega) (by omega)) ⟨e,e2,?_⟩
 refine⟨.non,_,I.lset (its':=its ++its2) hH e (by simp) (r.append r2) ?_,rfl,q⟩
 rw[List.length_append]
 omega
noncomputable def zqV:R2:=λx y H Q=>∃l b xs zs,x= .ref l/\y= .ref b/\H l=some (.lst xs)/\H b=some (.lst zs)/\xs.length+zs.length<=sizeLine/\∀p,H p=none->Q (.ref p) (upd H p (.lst (xs ++zs)))
theorem zpJ:OpR X (binaryOp .Add) zqV:=by
 intro pins s σ H x y v u Q I rx ry h
 obtain⟨l,b,xs,zs,rfl,rfl,hH,hB,hz,q⟩:=h
 cases rx
 cases ry
 obtain⟨z,its,n,r,hl,e⟩:=I.lstM hH
 obtain⟨z2,its2,n2,r2,hl2,e2⟩:=I.lstM hB
 refine PySem.P.add_list e e2 ?_ (by rw[List.size_toArray,List.size_toArray];omega)
 have ea:its.toArray ++its2.toArray=(its ++its2).toArray:=by simp
 rw[ea]
 exact⟨.ref _,_,I.lnew (t':=s.toks) (r.append r2) (by rw[List.length_append];omega),rfl,q _ I.fresh⟩
end
section
variable{prog:Program}{w:World}{A:Around}{E:Value->Shared->Prop}{s:Shared}
set_option maxRecDepth 100000 in
end
section
variable{X:Cx}
end
end L2
namespace Att
open PySem PySem.W PySem.Calls PyProof.Rows
theorem zeT{P:Params}{h:Heap}:∀(ns:List Int) (vs:List Value),WellAll P h vs (ns.map WData.int)->IntsAre vs ns:=by
 intro ns
 induction ns with
 |nil=>
  intro vs w
  rw[List.map_nil] at w
  cases w
  exact .nil
 |cons n ns ih=>
  intro vs w
  rw[List.map_cons] at w
  cases w with
  |cons a b=>
   cases a
   exact .cons _ _ (ih _ b)
theorem zkH{l:OpenLaw}{n:Nat}(hn:l.most=some n){P:Params}{h:Heap}{args:List WData}{vals:List Value}
 (hpre:l.row.toRowW.claim.pre args=true) (hwl:WellAll P h vals args):
 ∃a vs ns,vals=[Value.ref a]/\args=[WData.list (ns.map WData.int)]/\h.get? a=some {cls:= .type "list",data:= .seq vs.toArray}/\IntsAre vs ns/\ns.length<=n:=by
 have hsh:WShape.hasAll [] args [.list .int]=true:=(pre_splitW hpre).1
 have hc:l.pre.holds [] {args:=args}=true:=(pre_splitW hpre).2
 obtain⟨d,r,rfl,h1,h2⟩:=hasAllW_cons hsh
 obtain rfl:=hasAllW_nil h2
 obtain⟨xs,rfl,h3⟩:=hasW_list h1
 obtain⟨ns,rfl⟩:=items_int h3
 have hlen:ns.length<=n:=by
  unfold OpenLaw.pre at hc
  have h4:(WTm.not (.lt (.lit (.int (n:Int))) (.len (.arg 0)))).holds [] {args:=[.list (ns.map .int)]}=true:=by
   have h4:=(holds_andW hc).1
   rw[hn] at h4
   exact h4
  have h5:=condW_of h4 (w_not (w_lt w_lit (w_len_list (w_arg rfl))))
  rw[List.length_map] at h5
  refine Nat.le_of_not_lt λq=>?_
  have q':(n:Int)<((ns.length:Nat):Int):=by omega
  first
   |(rw[decide_eq_true q'] at h5;exact absurd h5 (by decide))
   |(simp at h5;omega)
 cases hwl with
 |cons w1 w2=>
  cases w2
  cases w1 with
  |list ho hall=>exact ⟨_,_,ns,rfl,rfl,ho,zeT ns _ hall,hlen⟩
theorem zld(l:OpenLaw)(args:List WData):l.row.toRowW.claim.post args (.bool true) args=true:=
 postW_of (r:=l.row.toRowW) (X:=(true==true))
  (show WShape.has [] (.bool true) .bool=true by first|rfl|decide|simp[WShape.has,WShape.arms,WShape.armsAll])
  (show(WTm.eq .res (.lit (.bool true))).value [] {args:=args,res:=some (.bool true),after:=args}=some (.bool (true==true))from w_eq_bool (w_res rfl) w_lit) rfl
theorem attach_call{l:OpenLaw}{n:Nat}{q:Program}{loose:List Str}{XP:(Str->Option Value)->Heap->Prop}{YP:World->Heap->Prop}{d:DefRec}
 (hn:l.most=some n) (hdf:d.params.defaults=[])
 (call:∀(w:World) (s₀ s₁:Shared) (mg mb:Str->Option Value) (fa:Addr) (o:Obj) (pm cd doc:Value) (a:Addr) (vs:List Value) (ns:List Int),
   Ground q loose [] XP w s₀ mg mb s₁.heap->YP w s₁.heap->
   s₁.heap.get? fa=some o->o.data= .func (docDef d.name d.params d.body d.scope pm cd doc)->s₁.heap.CodeRec cd d.name->mg d.name=some (.ref fa)->
   s₁.heap.get? a=some {cls:= .type "list",data:= .seq vs.toArray}->IntsAre vs ns->ns.length<=n->s₁.gens= #[]->
   codeAny (model l.prog w) callerA (.call (.ref fa) ⟨[.ref a],[]⟩) (λr s'=>r= .ok (.ret (.bool true))/\OldK s₁.heap s'.heap/\s'.os=s₁.os/\AllBare s'.gens) s₁):
 WalkO q loose XP YP l.row.toRowW d [] (λf vs=>PySem.call f vs):=by
 intro w s₀ s₁ mg mb G Y fa o pm cd doc dV kV ho hd hcd hD hmg hg args vals as hpre hlay hrd hwl hlo
 obtain rfl:dV= .none:=Dflts.none hD hdf
 obtain rfl:kV= .none:=Dflts.noKw hD
 obtain⟨a,vs,ns,rfl,rfl,hobj,hints,hlen⟩:=zkH hn hpre hwl
 refine enter_call (codeAny_mono (call w s₀ s₁ mg mb fa o pm cd doc a vs ns G Y ho (fd_plain hd) hcd hmg hobj hints hlen hg) λr s' hq=>?_)
 obtain⟨rfl,h2,h3,h4⟩:=hq
 exact⟨.inl ⟨.bool true, .bool true,[],rfl,λ_=>rfl, .bool true,zld l _,λ_=>⟨List.Pairwise.nil,λ_ hm=>(nomatch hm)⟩⟩,h2,h3,h4⟩
section
variable{prog:Program}{w:World}{A:Around}{E:Value->Shared->Prop}{s:Shared}{K:Frag}
end
end Att
namespace L2
open PySem PySem.Spec PyProof.Rows
theorem zgB:∀{vs:List Value} {ns:List Int},IntsAre vs ns->Vals (ns.map V.int) vs
 |_,_, .nil=> .nil
 |_,_, .cons n t h=> .cons ⟨t,rfl⟩ (zgB h)
def zpC(H:Hp):Prop:=∀b,H b=none\/∃o xs,H b=some (.frz o (.lst xs))
theorem zmT{P:Program}{w:World}{K:PySem.W.Frag}{mg mb:Str->Option Value}{CX:CXT}{k:Nat}{fa a:Addr}{fd:FuncData}{x:Str}{sp:Sp}{s₁:Shared}{vs:List Value}{ns:List Int}
 (KX:K.In s₁.heap) (hns:s₁.heap.Ns mainGlobals mg) (hb:s₁.heap.Ns builtinsNs mb) (hbb:∀x:Str,x≠"__name__"->mb x=bootBuiltins x) (hlim:s₁.heap.NoLimit) (hg:s₁.gens= #[])
 (ha:s₁.heap.get? a=some {cls:= .type "list",data:= .seq vs.toArray}) (hi:IntsAre vs ns) (hl:ns.length<=sizeLine) (hr:Room k callerA)
 (F:∀base:Heap,K.In base->base.Ns mainGlobals mg->FnOk P w K mg base CX k fa fd [x] sp) (hbind:∀(s:Shared) (u:Value),BindsTo s fd ⟨[u],[]⟩ [(x,u)])
 (hsp:∀H:Hp,zpC H->SqL K H a (ns.map V.int)->sp [.ref a] H (λv _=>v= .bl true) λ_ _ _=>False)
 (hCX:∀H e s',CX [] H s₁ (λ_ _ _=>False) e s'->False):
 codeAny (model P w) callerA (.call (.ref fa) ⟨[.ref a],[]⟩) (λr s'=>r= .ok (.ret (.bool true))/\OldK s₁.heap s'.heap/\s'.os=s₁.os/\AllBare s'.gens) s₁:=by
 have rv:=zgB hi
 have lenV:=hi.length
 have core:∀H:Hp,zpC H->SqL K H a (ns.map V.int)->HOk P w H s₁.heap->(∀b,H b≠none->b=a)->(H a≠none->K.lookup a=none)->
  codeAny (model P w) callerA (.call (.ref fa) ⟨[.ref a],[]⟩) (λr s'=>r= .ok (.ret (.bool true))/\OldK s₁.heap s'.heap/\s'.os=s₁.os/\AllBare s'.gens) s₁:=by
  intro H hO hS hok hA hK
  have base_of:∀{b:Addr} {o:Obj},s₁.heap.get? b=some o->H b=none->(zhj s₁.heap H).get? b=some o:=λe n=>zlw e n
  have noA:∀{b:Addr} {o:Obj} {es:Array DictEntry} {ep:Nat},s₁.heap.get? b=some o->o.data= .dict es ep->H b=none:=λ{b o es ep} e d=>by
   cases q:H b with
   |none=>rfl
   |some u=>
    have e':b=a:=hA b (by rw[q];simp)
    subst e'
    rw[ha] at e;cases e
    have d':Data.seq vs.toArray _=Data.dict es ep:=d
    cases d'
  have nsK:∀{b:Addr} {m:Str->Option Value},s₁.heap.Ns b m->(zhj s₁.heap H).Ns b m:=λ{b m} ⟨o,es,ep,e,d,r⟩=>⟨o,es,ep,base_of e (noA e d),d,r⟩
  have hKb:K.In (zhj s₁.heap H):=λb o e=>base_of (KX b o e) (by
   cases q:H b with
   |none=>rfl
   |some u=>
    have e':b=a:=hA b (by rw[q];simp)
    subst e'
    rw[hK (by rw[q];simp)] at e;cases e)
  have hM:Mod K mg (zhj s₁.heap H):=⟨hKb,nsK hns,⟨mb,nsK hb,hbb⟩,let⟨mc,h1,h2⟩:=hlim;⟨mc,nsK h1,h2⟩⟩
  have e0:Env0 P w K mg (zhj s₁.heap H) callerA [] s₁ H:=⟨rfl,hM,λb o e=>zn0 e,Nat.le_of_eq (zlk _ _),trivial,λb hb=>absurd (show b∈([]:List Addr)from hb) (by simp),hok, .of_eq hg⟩
  refine codeAny_mono ((F _ hKb (nsK hns)).run callerA [] s₁ H ⟨[.ref a],[]⟩ [.ref a] [.ref a] _ _ hr e0 (hbind s₁ (.ref a)) (.cons rfl .nil) (hsp H hO hS)) λr s' h=>?_
  cases r with
  |error e=>exact (hCX H e s' h).elim
  |ok fl=>
   cases fl with
   |next=>exact False.elim h
   |brk=>exact False.elim h
   |cont=>exact False.elim h
   |ret u=>
    obtain⟨v,H',os,bare,un,hok',r',q⟩:=h
    have q':v= .bl true:=q
    subst q'
    obtain rfl:u=Value.bool true:=r'
    refine⟨rfl,OldK.of_keep λb o e=>?_,os,bare⟩
    cases q:H b with
    |none=>exact un.keep b o e q (by intro z;exact absurd (show b∈([]:List Addr)from z) (by simp)) (by simp)
    |some u=>
     rcases hO b with z|⟨ob,xs,z⟩
     ·rw[q] at z;cases z
     ·have z2:=un.frzs b ob _ z
      obtain⟨e1,_⟩:=hok b _ z
      obtain⟨e2,_⟩:=hok' b _ z2
      rw[e] at e1;cases e1
      exact e2
 cases hk:K.lookup a with
 |some o=>
  have e:=KX a o hk
  rw[ha] at e
  cases e
  refine core (λ_=>none) (λ_=> .inl rfl) (.inr ⟨_,vs.toArray,_,hk,rfl,rfl,rfl,by rw[List.size_toArray,lenV];exact hl,by simpa using rv⟩) (λb u z=>by have z':(none:Option HO)=some u:=z;cases z') (λb z=>absurd rfl z) λz=>absurd rfl z
 |none=>
  refine core (λb=>if b=a then some (.frz {cls:= .type "list",data:= .seq vs.toArray} (.lst (ns.map V.int)))else none) (λb=>?_) (.inl (.inr ⟨{cls:= .type "list",data:= .seq vs.toArray},if_pos rfl⟩)) (λb u z=>?_) (λb z=>?_) λ_=>hk
  ·by_cases hb:b=a
   ·exact .inr ⟨_,_,if_pos hb⟩
   ·exact .inl (if_neg hb)
  ·by_cases hb:b=a
   ·have z':=(if_pos hb).symm.trans z
    cases z'
    subst hb
    exact⟨ha,by rw[List.length_map];exact hl,vs,_,rv,ha⟩
   ·have z':=(if_neg hb).symm.trans z
    cases z'
  ·by_cases hb:b=a
   ·exact hb
   ·exact absurd (if_neg hb) z
theorem walk_of{l:PySem.W.OpenLaw}{n k:Nat}{q:Program}{loose:List Str}{XP:(Str->Option Value)->Heap->Prop}{YP:World->Heap->Prop}{d:DefRec}{K:Params->PySem.W.Frag}{CX:World->CXT}{sp:World->Sp}{x:Str}
 (hn:l.most=some n) (hn2:n<=sizeLine) (hdf:d.params.defaults=[]) (hr:Room k callerA)
 (hY:∀(w:World) (h:Heap),YP w h->(K w.params).In h)
 (F:∀(w:World) (mg:Str->Option Value) (fa:Addr) (h:Heap),(K w.params).In h->h.Ns mainGlobals mg->mg d.name=some (.ref fa)->
   ∃fd:FuncData,(∀(s:Shared) (u:Value),BindsTo s fd ⟨[u],[]⟩ [(x,u)])/\
    ∀base:Heap,(K w.params).In base->base.Ns mainGlobals mg->FnOk l.prog w (K w.params) mg base (CX w) k fa fd [x] (sp w))
 (hsp:∀(w:World) (H:Hp) (a:Addr) (ns:List Int),ns.length<=n->zpC H->SqL (K w.params) H a (ns.map V.int)->sp w [.ref a] H (λv _=>v= .bl true) λ_ _ _=>False)
 (hCX:∀(w:World) (H:Hp) (s:Shared) (e:Value) (s':Shared),CX w [] H s (λ_ _ _=>False) e s'->False):
 PySem.W.WalkO q loose XP YP l.row.toRowW d [] (λf vs=>PySem.call f vs):=by
 refine Att.attach_call hn hdf λw s₀ s₁ mg mb fa o pm cd doc a vs ns G Y ho hd hcd hmg hobj hints hlen hg=>?_
 have KX:=hY w _ Y
 obtain⟨fd,hb,hF⟩:=F w mg fa _ KX G.T.g hmg
 exact zmT KX G.T.g G.T.b G.T.builtins G.T.nolimit hg hobj hints (Nat.le_trans hlen hn2) hr hF hb (λH hO hS=>hsp w H a ns hlen hO hS) λH e s'=>hCX w H s₁ e s'
noncomputable def zbB(s:Stmt)(j:Nat):Stmt:=match s with
 | .ClassDef _ _ _ body _ _ _ _ _ _ _=>body.getD j (.Pass ⟨0,0,0,0⟩)
 |_=> .Pass ⟨0,0,0,0⟩
noncomputable def zq(s:Stmt):Arguments:=match s with
 | .FunctionDef _ a _ _ _ _ _ _ _ _=>a
 |_=>{posonlyargs:=[],args:=[],vararg:=none,kwonlyargs:=[],kw_defaults:=[],kwarg:=none,defaults:=[]}
noncomputable def zo(s:Stmt):List Stmt:=match s with
 | .FunctionDef _ _ b _ _ _ _ _ _ _=>b
 |_=> []
noncomputable def zd(s:Stmt):Scope:=match s with
 | .FunctionDef _ _ _ _ _ _ sc _ _ _=>sc
 |_=>{kind:= .function,names:=[],isGenerator:=false,isCoroutine:=false}
noncomputable abbrev CX0:CXT:=λ_ _ _ _ _ _=>False
noncomputable abbrev E0:XK:=λ_ _ _=>False
theorem zm{X:Cx}:zce CX0 X E0:=λ_ _ _ _ _ _ _ h=>h.elim
structure Fun(K:PySem.W.Frag)(x qual:Str)(st:Stmt)(f:Addr)(fd:FuncData):Prop where
 ex:∃(oc:Value) (od:Option Addr) (kV doc pm:Value) (an:Option Addr) (cdv ct:Value) (osl:Array (Option Value)),
  fd=PySem.W.fnOf x qual (zq st) (zo st) (zd st) .none kV doc pm an cdv ct/\K.lookup f=some ⟨oc,od, .func fd,osl⟩/\PySem.W.codeIn K cdv qual=true
 kp:PySem.W.keepIn K (.ref f)=true
section
variable{P:Program}{w:World}{K:PySem.W.Frag}{mg:Str->Option Value}{base:Heap}
theorem Fun.ok{x qual:Str}{st:Stmt}{f:Addr}{fd:FuncData}{N ps:List Str}{k:Nat}{sp:Sp}(F:Fun K x qual st f fd)(S:FnScope N ps (zd st))(len:∀vs H Q E,sp vs H Q E->vs.length=ps.length)
 (hbody:∀(cdv:Value) (A:Around) (outer:List Env) (s:Shared) (H:Hp) (vs:List V) (Q:VK) (E:XK),Room k (A.deeper (envOfC qual (zd st) s.heap.objs.size f cdv))->sp vs H Q E->
   ∃t,PSs (zhN CX0 P w K mg base N qual (zd st) f cdv A outer s H E).nox (zo st) t/\t {nx:=λ_ H'=>Q .non H',rt:=Q} (zdD N vs) H):FnOk P w K mg base CX0 (k+1) f fd ps sp:=by
 obtain⟨oc,od,kV,doc,pm,an,cdv,ct,osl,rfl,lk,hcd⟩:=F.ex
 refine zo6 lk hcd S len λA outer s H vs Q E hr hsp=>?_
 obtain⟨t,h,q⟩:=hbody cdv A outer s H vs Q E hr hsp
 exact⟨t,h.nox,q⟩
theorem Fun.binds{x qual:Str}{st:Stmt}{f:Addr}{fd:FuncData}{ps:List Str}(F:Fun K x qual st f fd)
 (h:∀(kV doc pm:Value) (an:Option Addr) (cdv ct:Value) (us:List Value),us.length=ps.length->bindArgs (PySem.W.fnOf x qual (zq st) (zo st) (zd st) .none kV doc pm an cdv ct) ⟨us,[]⟩=pure (ps.zip us)):Binds K fd ps []:=by
 obtain⟨oc,od,kV,doc,pm,an,cdv,ct,osl,rfl,lk,hcd⟩:=F.ex
 exact .all (h kV doc pm an cdv ct)
theorem zC{x qual:Str}{st:Stmt}{f:Addr}{oc:Value}{od an:Option Addr}{osl:Array (Option Value)}{kV doc pm cdv ct:Value}(l:K.lookup f=some ⟨oc,od, .func (PySem.W.fnOf x qual (zq st) (zo st) (zd st) .none kV doc pm an cdv ct),osl⟩)
 (c:PySem.W.codeIn K cdv qual=true) (k:PySem.W.keepIn K (.ref f)=true):Fun K x qual st f (PySem.W.fnOf x qual (zq st) (zo st) (zd st) .none kV doc pm an cdv ct):=⟨⟨oc,od,kV,doc,pm,an,cdv,ct,osl,rfl,l,c⟩,k⟩
end
theorem zp{n:Nat}(h:n<=1000):n<sizeLine:=Nat.lt_of_le_of_lt h (by decide)
section
variable{X:Cx}
end
theorem zcG{c A B:Prop}[Decidable c](h1:c->A)(h2:¬c->B):if c then A else B:=by
 by_cases h:c
 ·rw[if_pos h]
  exact h1 h
 ·rw[if_neg h]
  exact h2 h
def Same(H H':Hp):Prop:=∀b o,H b=some o->H' b=some o
theorem Same.refl(H:Hp):Same H H:=λ_ _ h=>h
theorem Same.trans{H H1 H2:Hp}(a:Same H H1)(b:Same H1 H2):Same H H2:=λc o h=>b c o (a c o h)
theorem Same.free{H H':Hp}(e:Same H H'){l:Addr}(h:H' l=Option.none):H l=Option.none:=by
 cases q:H l with
 |none=>rfl
 |some o=>
  rw[e l o q] at h
  cases h
theorem Same.seq{K:PySem.W.Frag}{H H':Hp}{a:Addr}{xs:List V}(e:Same H H')(h:SqL K H a xs):SqL K H' a xs:=by
 rcases h with(h|⟨o,h⟩)|h
 ·exact .inl (.inl (e _ _ h))
 ·exact .inl (.inr ⟨o,e _ _ h⟩)
 ·exact .inr h
end L2
set_option maxHeartbeats 4000000
namespace L2
open PySem PySem.Spec PyProof.Rows
noncomputable def zW(X:Cx)(N':List Str)(scope:Scope)(cl:List (Str×Addr))(C:Addr)(s₀:Shared)(H₀:Hp)(fp:List Addr):Cx:=
 {prog:=X.prog,w:=X.w,K:=X.K,mg:=X.mg,base:=X.base,A:=X.A,N:=N',s₀:=s₀,H₀:=H₀,env:=compEnvC scope cl C X.env,outer:=X.stack,stack:=X.stack,ex:=fp,fn:=λ_=>false,
  calm:=X.calm,pn:=[],xe:=λ_ _=>False}
structure CompOk(N:List Str)(osc:Scope)(N':List Str)(src:List (Option Nat))(scope:Scope):Prop where
 kind:scope.kind= .function
 nocell:∀y∈scope.names,y.2≠ .cell
 loc:∀y∈scope.names,y.2= .local->scope.names.lookup y.1=some .local
 frees:∀y∈scope.names,y.2= .free->osc.names.lookup y.1=some .cell\/osc.names.lookup y.1=some .free
 nd:N'.Nodup
 len:src.length=N'.length
 src:∀q∈src.zip N',∀j∈q.1.toList,N[j]?=some q.2/\scope.names.lookup q.2=some .free
theorem zdI{env:Env}:∀(l:List (Str×NameKind)) (acc:List (Str×Addr)),(∀x c,acc.lookup x=some c->env.cells.lookup x=some c)->(∀y∈l,y.2= .free->∃c,env.cells.lookup y.1=some c)->
 ∃cl,(forIn l acc λ(x:Str×NameKind) (r:List (Str×Addr))=>(if(x.2==NameKind.free)=true then(cellOf env x.1>>=λa=>pure (ForInStep.yield ((x.1,a)::r)))else pure (ForInStep.yield r):Sem (ForInStep (List (Str×Addr)))))=pure cl/\
  (∀x c,cl.lookup x=some c->env.cells.lookup x=some c)/\(∀y∈l,y.2= .free->∃c,cl.lookup y.1=some c)/\(∀x c,acc.lookup x=some c->∃d,cl.lookup x=some d)
 |[],acc,h,_=>⟨acc,rfl,h,λ_ z=>(nomatch z),λx c e=>⟨c,e⟩⟩
 |(n,k)::l,acc,h,hf=>by
  by_cases hk:k= .free
  ·subst hk
   obtain⟨c,hc⟩:=hf (n, .free) List.mem_cons_self rfl
   have hacc:∀x d,((n,c)::acc).lookup x=some d->env.cells.lookup x=some d:=λx d e=>by
    rw[List.lookup_cons] at e
    cases hx:x==n with
    |true=>
     rw[hx] at e
     have e1:x=n:=by simpa using hx
     have e2:c=d:=by simpa using e
     rw[e1,←e2];exact hc
    |false=>
     rw[hx] at e
     exact h x d e
   obtain⟨cl,e1,e2,e3,e4⟩:=zdI l ((n,c)::acc) hacc λy hy=>hf y (List.mem_cons_of_mem _ hy)
   refine⟨cl,?_,e2,λy hy hyf=>?_,λx d e=>?_⟩
   ·rw[List.forIn_cons]
    have:cellOf env n=pure c:=by unfold cellOf;rw[hc]
    simp only[beq_self_eq_true,if_true,this,pure_bind]
    exact e1
   ·rcases List.mem_cons.mp hy with rfl|hy
    ·exact e4 n c (by simp)
    ·exact e3 y hy hyf
   ·by_cases hx:x=n
    ·subst hx;exact e4 x c (by simp)
    ·have hb:(x==n)=false:=by simpa using hx
     exact e4 x d (by rw[List.lookup_cons,hb];exact e)
  ·obtain ⟨cl,e1,e2,e3,e4⟩:=zdI l acc h λy hy=>hf y (List.mem_cons_of_mem _ hy)
   refine⟨cl,?_,e2,λy hy hyf=>?_,e4⟩
   ·rw[List.forIn_cons]
    have hb:(k==NameKind.free)=false:=by simpa using hk
    simp only[hb,Bool.false_eq_true,if_false,pure_bind]
    exact e1
   ·rcases List.mem_cons.mp hy with rfl|hy
    ·exact absurd hyf hk
    ·exact e3 y hy hyf
theorem zfs{scope:Scope}{env:Env}(hf:∀y∈scope.names,y.2= .free->∃c,env.cells.lookup y.1=some c):
 ∃cl,closureFor scope env=pure cl/\(∀x c,cl.lookup x=some c->env.cells.lookup x=some c)/\∀y∈scope.names,y.2= .free->∃c,cl.lookup y.1=some c:=by
 obtain⟨cl,e1,e2,e3,_⟩:=zdI (env:=env) scope.names [] (λ_ _ z=>by simp at z) hf
 refine⟨cl,?_,e2,e3⟩
 unfold closureFor
 refine Eq.trans ?_ (congrArg (λt=>t>>=λc=>(pure c:Sem (List (Str×Addr)))) e1)
 first
  |rfl
  |(congr 1)
theorem zhd{scope:Scope}{env:Env}:∀{x:Str},(relabel scope env).names.lookup x=some .cell\/(relabel scope env).names.lookup x=some .free->(∀y∈scope.names,y.2≠ .cell)->(x,NameKind.free)∈scope.names:=by
 intro x h hc
 have key:∀(l:List (Str×NameKind)),(∀y∈l,y.2≠ .cell)->((l.map λ(n,k)=>if (k==NameKind.free&&env.scope.kind== .function&&env.kindOf n==some .cell)then(n,NameKind.cell)else(n,k)).lookup x=some .cell\/
  (l.map λ(n,k)=>if (k==NameKind.free&&env.scope.kind== .function&&env.kindOf n==some .cell)then(n,NameKind.cell)else(n,k)).lookup x=some .free)->(x,NameKind.free)∈l:=by
  intro l
  induction l with
  |nil=>intro _ h;simp at h
  |cons y l ih=>
   obtain⟨n,k⟩:=y
   intro hc h
   have hc':∀y∈l,y.2≠ .cell:=λy hy=>hc y (List.mem_cons_of_mem _ hy)
   have hk:k≠ .cell:=hc (n,k) List.mem_cons_self
   rw[List.map_cons] at h
   by_cases hx:x=n
   ·subst hx
    by_cases hf:k= .free
    ·subst hf;exact List.mem_cons_self
    ·exfalso
     have hb:(k==NameKind.free)=false:=by simpa using hf
     simp only[hb,Bool.false_and,Bool.false_eq_true,if_false,List.lookup_cons,beq_self_eq_true] at h
     rcases h with h|h
     ·exact hk (Option.some.inj h)
     ·exact hf (Option.some.inj h)
   ·refine List.mem_cons_of_mem _ (ih hc' ?_)
    have hb:(x==n)=false:=by simpa using hx
    by_cases hq:(k==NameKind.free&&env.scope.kind== .function&&env.kindOf n==some .cell)=true
    ·simp only[hq,if_true,List.lookup_cons,hb] at h
     exact h
    ·simp only[hq,Bool.false_eq_true,if_false,List.lookup_cons,hb] at h
     exact h
 exact key _ hc h
theorem zhF{scope:Scope}{env:Env}{x:Str}(h:scope.names.lookup x=some .free):(relabel scope env).names.lookup x=some .cell\/(relabel scope env).names.lookup x=some .free:=by
 have key:∀(l:List (Str×NameKind)),l.lookup x=some .free->((l.map λ(n,k)=>if (k==NameKind.free&&env.scope.kind== .function&&env.kindOf n==some .cell)then(n,NameKind.cell)else(n,k)).lookup x=some .cell\/
  (l.map λ(n,k)=>if (k==NameKind.free&&env.scope.kind== .function&&env.kindOf n==some .cell)then(n,NameKind.cell)else(n,k)).lookup x=some .free):=by
  intro l
  induction l with
  |nil=>intro h;simp at h
  |cons y l ih=>
   obtain⟨n,k⟩:=y
   intro h
   rw[List.map_cons]
   rw[List.lookup_cons] at h
   cases hx:x==n with
   |true=>
    rw[hx] at h
    have hk:k= .free:=Option.some.inj h
    subst hk
    by_cases hq:(NameKind.free==NameKind.free&&env.scope.kind== .function&&env.kindOf n==some .cell)=true
    ·simp only[hq,if_true,List.lookup_cons,hx];exact .inl trivial
    ·simp only[hq,Bool.false_eq_true,if_false,List.lookup_cons,hx];exact .inr trivial
   |false=>
    rw[hx] at h
    by_cases hq:(k==NameKind.free&&env.scope.kind== .function&&env.kindOf n==some .cell)=true
    ·simp only[hq,if_true,List.lookup_cons,hx];exact ih h
    ·simp only[hq,Bool.false_eq_true,if_false,List.lookup_cons,hx];exact ih h
 exact key _ h
noncomputable def zgg(src:List (Option Nat))(σ:St):St:=src.map λo=>o.bind λj=>(σ[j]?).join
section
variable{X:Cx}{pins:List (Addr×Obj)}{σ:St}{H:Hp}{s:Shared}{N':List Str}{src:List (Option Nat)}{scope osc:Scope}{cl:List (Str×Addr)}{fp:List Addr}
theorem zfl{h₁:Heap}{tk:Nat}(I:Inv X pins σ H s)(hf:∀b∈fp,zex X pins H b)(hlt:∀b∈fp,b<s.heap.objs.size)(ok:CompOk X.N osc N' src scope)(hsc:X.env.scope=osc)
 (c1:∀x c,cl.lookup x=some c->X.env.cells.lookup x=some c) (c2:∀y∈scope.names,y.2= .free->∃c,cl.lookup y.1=some c)
 (hn:h₁.Ns s.heap.objs.size λ_=>none) (hk:∀b o,s.heap.get? b=some o->h₁.get? b=some o):
 Inv (zW X N' scope cl s.heap.objs.size s H fp) [] (zgg src σ) H {s with heap:=h₁,toks:=tk}:=by
 have hkind:(relabel scope X.env).kind= .function:=ok.kind
 refine⟨⟨I.ok.mod,hkind,I.ok.glob,I.ok.blt,Nat.le_refl _,λx y c h1 h2=>I.ok.inj x y c (c1 x c h1) (c1 y c h2),λx hx=>?_,λx c z _=>(by cases z),I.ok.hd,I.ok.frames, .inl rfl,λb hb=>?_,I.bs,Nat.le_trans I.ok.bsz I.sz,λb o e hb=>?_,λb hb z=>?_,I.stack,I.stkFree⟩,
  rfl,I.bare,Un.kept hk,⟨_,hn,λi x v h1 h2 h3=>?_⟩,λx c e=>?_,I.hok.fresh (Nat.le_refl _),λx c e=>I.freeC x c (c1 x c e),λp hp=>absurd (show p∈([]:List (Addr×Obj))from hp) (by simp),I.hok.kept hk,?_⟩
 ·exact c2 _ (zhd (env:=X.env) (scope:=scope) (x:=x) hx ok.nocell) rfl
 ·obtain ⟨f0,f1,f2,f3,f4,f5⟩:=hf b hb
  exact⟨λz=>absurd (hlt b hb) (by rw[z];exact Nat.lt_irrefl _),λx c e=>f4 x c (c1 x c e)⟩
 ·obtain ⟨f0,f1,f2,f3,f4,f5⟩:=hf b hb
  rcases f3 with z|z
  ·exact I.ok.noex b o e z
  ·exact absurd (Nat.lt_of_lt_of_le (Heap.lt_size e) (Nat.le_trans I.ok.bsz z)) (Nat.lt_irrefl _)
 ·obtain ⟨f0,f1,f2,f3,f4,f5⟩:=hf b hb
  rcases List.mem_cons.mp (I.stkSub b z)with q|q
  ·exact f1 q
  ·exact f2 q
 ·
  have hi:∃j,src[i]?=some (some j)/\σ[j]?=some (some v):=by
   unfold zgg at h2
   rw[List.getElem?_map] at h2
   cases e:src[i]? with
   |none=>rw[e] at h2;cases h2
   |some o=>
    rw[e] at h2
    cases o with
    |none=>cases h2
    |some j=>
     refine⟨j,rfl,?_⟩
     have h2':(σ[j]?).join=some v:=Option.some.inj h2
     cases e2:σ[j]? with
     |none=>rw[e2] at h2';cases h2'
     |some w=>rw[e2] at h2';exact congrArg some h2'
  obtain⟨j,e1,e2⟩:=hi
  have hz:(some j,x)∈src.zip N':=by
   refine List.mem_iff_getElem?.mpr ⟨i,?_⟩
   rw[List.getElem?_zip_eq_some]
   exact⟨e1,h1⟩
  obtain⟨q1,q2⟩:=ok.src _ hz j (by simp)
  have hfr:=PySem.mem_of_lookup q2
  have hk0:=ok.frees _ hfr rfl
  rw[←hsc] at hk0
  obtain⟨m,hns,hl⟩:=I.loc
  obtain⟨u,r,l⟩:=hl j x v q1 e2 (hk0.elim (λz=> .inr (.inl z)) λz=> .inr (.inr z))
  refine⟨u,r,?_⟩
  rcases l with⟨l1,_⟩|⟨_,c,l2,l3⟩
  ·exfalso
   have l1':X.env.scope.names.lookup x=some .local:=l1
   rcases hk0 with z|z
   ·rw[l1'] at z;cases z
   ·rw[l1'] at z;cases z
  ·obtain ⟨d,hd⟩:=c2 _ hfr rfl
   have:d=c:=by
    have:=(c1 _ _ hd).symm.trans l2
    exact Option.some.inj this
   subst this
   obtain⟨o,ho,hod⟩:=l3
   exact .inr ⟨zhF q2,d,hd,o,hk _ _ ho,hod⟩
 ·obtain ⟨v,o,ho,hod⟩:=I.cell x c (c1 x c e)
  exact⟨v,o,hk _ _ ho,hod⟩
 ·show (zgg src σ).length=N'.length
  unfold zgg
  rw[List.length_map]
  exact ok.len
theorem zfZ{C:Addr}{σ':St}{H':Hp}{s':Shared}{h':Heap}(I:Inv X pins σ H s)(hf:∀b∈fp,zex X pins H b)(hC:s.heap.objs.size<=C)(J:Inv (zW X N' scope cl C s H fp) [] σ' H' s')(hs:Heap.SameBut C s'.heap h'):
 Inv X pins σ H' {s' with heap:=h'}:=by
 have nC:∀b o,s.heap.get? b=some o->b≠C:=λb o e z=>absurd (Nat.lt_of_lt_of_le (Heap.lt_size e) (by rw[z];exact hC)) (Nat.lt_irrefl _)
 have B:Un (frs X.stack) fp H H' s.heap s'.heap:=J.base
 refine I.call' (ch:=fp) J.os ⟨λb o e n hb hx=>(hs.2 b (nC b o e)).trans (B.keep b o e n hb hx),λb o e n hb hx=>?_,B.free,λb o e hx=>?_,B.tups,B.frzs,B.tbls⟩ (λb ob e=>?_) J.bare λb hb=>?_
 ·obtain ⟨sl,e1⟩:=B.slot b o e n hb hx
  exact⟨sl,(hs.2 b (nC b o e)).trans e1⟩
 ·obtain ⟨o',e1⟩:=B.there b o e hx
  exact⟨o',(hs.2 b (nC b o e)).trans e1⟩
 ·refine (J.hok b ob e).stay (λc w' hc q=>(hs.2 c ?_).trans q) (λ_ q=>q) λ_ _ q=>q
  have hfree:H' C=none:=J.free
  rintro rfl
  rcases hc with rfl|hc
  ·rw[hfree] at e;cases e
  ·rw[hfree] at hc;cases hc
 ·obtain ⟨f0,f1,f2,f3,f4,f5⟩:=hf b hb
  exact⟨f3,f1,f4,f5⟩
end
noncomputable def zj5(ifs:List Expr)(env:Env):Sem Bool:=forIn ifs true λc r=>if r=true then do let ok ←isTrue c env (eval c env);pure (ForInStep.yield ok)else pure (ForInStep.yield r)
def PIf(X:Cx)(ifs:List Expr)(t:TT):Prop:=
 ∀(pins:List (Addr×Obj)) (s:Shared) (σ:St) (H:Hp) (Q:Bool->Hp->Prop),Inv X pins σ H s->t σ H Q->wpAny (model X.prog X.w) X.A (zj5 ifs X.env) (TP X pins σ Q) X.xe s
noncomputable def zof:TT:=λ_ H Q=>Q true H
theorem znP{X:Cx}:PIf X [] zof:=λpins s σ H Q I h=>wpAny_tests_nil ⟨H,I,h⟩
theorem zoh{X:Cx}{c:Expr}{t:TT}(h:PT X c t):PIf X [c] t:=λpins s σ H Q I hq=>wpAny_tests_one (h pins s σ H Q I hq)
theorem zeb{prog:Program}{w:World}{A:Around}{R:Result->Shared->Prop}{s:Shared}{elt target iter:Expr}{ifs:List Expr}{scope:Scope}{pos:Pos}{it acc:Value}{env:Env}(I:Nat->Shared->Prop)
 (turn:∀n s,I n s->wpAny (model prog w) A (pyNext it) (λr s1=>match r with
   |none=>R (.ok .next) s1
   |some v=>wpAny (model prog w) A (letOwnedTupleGo target it v) (λ_ s1'=>wpAny (model prog w) A (assign target env v) (λ_ s2=>wpAny (model prog w) A (zj5 ifs env) (λok s3=>
     if ok=true then wpAny (model prog w) A (eval elt env) (λx s4=>wpAny (model prog w) A (call (.builtin "list.append") [acc,x]) (λ_ s5=>∃m,m<n/\I m s5) (λ_ _=>False) s4) (λ_ _=>False) s3
     else∃m,m<n/\I m s3) (λ_ _=>False) s2) (λ_ _=>False) s1') (λ_ _=>False) s1) (λ_ _=>False) s)
 (n:Nat) (h:I n s):codeAny (model prog w) A (.compLoop (.ListComp elt [⟨target,iter,ifs,0⟩] scope pos) 0 it acc env) R s:=by
 have no:∀{E:Value->Shared->Prop} (e:Value) (s:Shared),(λ(_:Value) (_:Shared)=>False) e s->E e s:=λ_ _ z=>False.elim z
 refine codeAny_loop rfl I (λn s hI=>?_) n h
 show wpAny _ A ((compTurn (.ListComp elt [⟨target,iter,ifs,0⟩] scope pos) 0 it acc env).onRaise (λx=>do noteFrame x env;theTreesLotGoes x)) _ _ s
 refine wpAny_noted ?_
 rw[compTurn_list]
 refine wpAny_bind (wpAny_standAt (wpAny_bind (wpAny_mono (turn n s hI) (λr s₁ h₁=>?_) no)))
 cases r with
 |none=>exact wpAny_pure h₁
 |some v=>
  refine wpAny_bind (wpAny_mono h₁ (λ_ s1' h1'=>?_) no)
  refine wpAny_bind (wpAny_mono h1' (λ_ s₂ h₂=>wpAny_bind (wpAny_mono h₂ (λok s₃ h₃=>?_) no)) no)
  cases ok with
  |false=>exact wpAny_pure ⟨rfl,h₃⟩
  |true=>
   exact wpAny_bind (wpAny_bind (wpAny_mono h₃ (λx s₄ h₄=>wpAny_bind (wpAny_mono h₄ (λ_ s₅ h₅=>wpAny_pure (wpAny_pure ⟨rfl,h₅⟩)) no)) no))
def zep(g:TG)(tc:TT)(te:TE)(src:List (Option Nat))(σ:St)(Q:VK)(J:It)(H1:Hp):Prop:=∀l,H1 l=none->
 ∃W:Nat->Nat->List V->St->Hp->Prop,(∃m,W 0 m [] (zgg src σ) (upd H1 l (.lst [])))/\∀i m ys σ' H',W i m ys σ' H'->H' l=some (.lst ys)->
  (J.stop i H'/\Q (.ref l) H')\/(J.go i H'/\∃N:List V->St->Hp->Prop,(∀zs σ2 H2,N zs σ2 H2->∃m',m'<m/\W (i+1) m' zs σ2 H2)/\∀x H2,J.yld i H' x H2->g x σ' H2 λσ2 H3=>tc σ2 H3 λb H4=>
    if b=true then te σ2 H4 λy H5=>H5 l=some (.lst ys)/\ys.length<sizeLine/\N (ys ++ [y]) σ2 (upd H5 l (.lst (ys ++ [y])))
    else H4 l=some (.lst ys)/\N ys σ2 H4)
noncomputable def zky(wi:TI)(g:TG)(tc:TT)(te:TE)(src:List (Option Nat)):TE:=λσ H Q=>wi σ H (zep g tc te src σ Q)
def zoJ(g:TG)(tb:TS)(D:Ends)(σ:St)(J:It)(H1:Hp):Prop:=∃W:Nat->Nat->St->Hp->Prop,(∃m,W 0 m σ H1)/\∀i m σ H,W i m σ H->
 (J.stop i H/\D.nx σ H)\/(J.go i H/\∃N:St->Hp->Prop,(∀σ' H',N σ' H'->∃m',m'<m/\W (i+1) m' σ' H')/\∀x H',J.yld i H x H'->g x σ H' λσ2 H2=>tb {D with nx:=N,ct:=N,bk:=D.nx} σ2 H2)
noncomputable def zoE(wi:TI)(g:TG)(tb:TS):TS:=λD σ H=>wi σ H (zoJ g tb D σ)
theorem zov{X:Cx}{tg iter:Expr}{body:List Stmt}{wi:TI}{g:TG}{tb:TS}{pos:Pos}(hp:PassesOwn (model X.prog X.w) X.A X.env X.xe)(hc:X.calm=true)(hi:PI X tg iter wi)(hg:PG X tg g)(hb:PSs X body tb)
 (hs:∀x,foldedSetIterable iter X.env x=pure x:=by intro _;rfl):PS X (.For tg iter body [] pos) (zoE wi g tb):=zpj hp hc hi hg hb hs
section
variable{X:Cx}{elt tg iter:Expr}{ifs:List Expr}{scope osc:Scope}{pos:Pos}{N':List Str}{src:List (Option Nat)}{wi:TI}{g:TG}{tc:TT}{te:TE}
theorem znr(ok:CompOk X.N osc N' src scope)(hsc:X.env.scope=osc)(hc:X.calm=true)(hi:PI X tg iter wi)
 (hg:∀cl C s₀ H₀ fp,PG (zW X N' scope cl C s₀ H₀ fp) tg g) (ht:∀cl C s₀ H₀ fp,PIf (zW X N' scope cl C s₀ H₀ fp) ifs tc) (he:∀cl C s₀ H₀ fp,PE (zW X N' scope cl C s₀ H₀ fp) elt te)
 (hs:∀x,foldedSetIterable iter X.env x=pure x:=by intro _;rfl):PE X (.ListComp elt [⟨tg,iter,ifs,0⟩] scope pos) (zky wi g tc te src):=by
 intro pins s σ H Q I h
 obtain⟨cl,hcl,c1,c2⟩:=zfs (scope:=scope) (env:=X.env) λy hy hyf=>I.ok.has y.1 (by
  have z:=ok.frees y hy hyf
  rw[←hsc] at z
  exact z)
 rw[eval_ListComp]
 refine wpAny_comprehension_free (use:=none) rfl hs hcl ok.kind ok.loc (thn (hi pins s σ H _ I h) λv s1 h1=>thn h1 λitv s2 h2=>?_)
 obtain⟨it,fp,tn,J,H2,e,I2,T,st2,f2,q2⟩:=h2
 subst e
 have hlt2:∀b∈fp,b<s2.heap.objs.size:=λb hb=>by
  obtain⟨o,e,_⟩:=T.obj _ _ st2 b hb
  exact Heap.lt_size e
 refine wpAny_newObj_type ?_
 have hl:H2 s2.heap.objs.size=none:=I2.hok.fresh (Nat.le_refl _)
 have I3:Inv X pins σ (upd H2 s2.heap.objs.size (.lst [])) {s2 with heap:=s2.heap.push {cls:= .type "list",dict:=none,data:= .seq ([]:List Value).toArray}}:=
  I2.laid (t':=s2.toks) (λb u e=>Heap.get?_push_of_some _ e) (Nat.le_refl _) ⟨Nat.zero_le _,[],0, .nil,Heap.get?_push_size _ rfl⟩
 obtain⟨W,⟨m0,w0⟩,turn⟩:=q2 _ hl
 generalize hl2:s2.heap.objs.size=l at *
 generalize hs3:({s2 with heap:=s2.heap.push {cls:= .type "list",dict:=none,data:= .seq ([]:List Value).toArray}}:Shared)=s3 at *
 have f3:∀b∈fp,zex X pins (upd H2 l (.lst [])) b:=λb hb=>⟨by rw[zh (Nat.ne_of_lt (hlt2 b hb))];exact(f2 b hb).1,(f2 b hb).2⟩
 have k3:∀b o,s2.heap.get? b=some o->s3.heap.get? b=some o:=λb o e=>by rw[←hs3];exact Heap.get?_push_of_some _ e
 have hlt3:∀b∈fp,b<s3.heap.objs.size:=λb hb=>by
  obtain⟨o,e,_⟩:=T.obj _ _ st2 b hb
  exact Heap.lt_size (k3 b o e)
 refine wpAny_newFunctionEnv ok.nocell (by intro y hy;simp at hy) (λh₁ hns₁ hsb₁=>?_) ok.kind
 have k4:∀b o,s3.heap.get? b=some o->h₁.get? b=some o:=λb o e=>(hsb₁.2 b (Nat.ne_of_lt (Heap.lt_size e))).trans (Heap.get?_push_of_some _ e)
 have J0:=zfl (tk:=s3.toks+([]:List (Str×Value)).length) I3 f3 hlt3 ok hsc c1 c2 hns₁ k4
 have st4:tn 0 h₁:=T.keep _ _ _ st2 λb hb o e=>k4 b o (k3 b o e)
 generalize hC:s3.heap.objs.size=C at *
 have stat:∀{H':Hp},(∀b∈fp,H' b=none)->∀b∈fp,zex (zW X N' scope cl C s3 (upd H2 l (.lst [])) fp) [] H' b:=λ{H'} hn b hb=>
  ⟨hn b hb,(J0.ok.exf b hb).1,J0.ok.exfs b hb, .inl hb,(J0.ok.exf b hb).2,λp hp=>absurd (show p∈([]:List (Addr×Obj))from hp) (by simp)⟩
 have loop:codeAny (model X.prog X.w) X.A (.compLoop (.ListComp elt [⟨tg,iter,ifs,0⟩] scope pos) 0 (.ref it) (.ref l) (compEnvC scope cl C X.env))
  (compPost (model X.prog X.w) X.A X.xe none (EP X pins σ Q) (.ref l) C) {s3 with heap:=h₁,toks:=s3.toks+([]:List (Str×Value)).length}:=by
  refine zeb (λn s'=>∃i ys σ' H',Inv (zW X N' scope cl C s3 (upd H2 l (.lst [])) fp) [] σ' H' s'/\tn i s'.heap/\(∀b∈fp,H' b=none)/\H' l=some (.lst ys)/\W i n ys σ' H') ?_ m0
   ⟨0,[],_,_,J0,st4,λb hb=>(f3 b hb).1,zb,w0⟩
  rintro n s5 ⟨i,ys,σ5,H5,I5,st5,fr5,hl5,w5⟩
  rcases turn i n ys σ5 H5 w5 hl5 with⟨stop,qn⟩|⟨go,N,hN,step⟩
  ·refine thn (T.done (zW X N' scope cl C s3 (upd H2 l (.lst [])) fp) rfl rfl rfl hc i [] s5 σ5 H5 (λ_ _=>False) I5 (stat fr5) st5 stop) λr s6 ⟨hr,I6⟩=>?_
   subst hr
   obtain⟨m,hn,_⟩:=I6.loc
   exact⟨m,hn,λh' hsb=>⟨.ref l,H5,zfZ I3 f3 (by rw[←hC];exact Nat.le_refl _) I6 hsb,rfl,qn⟩⟩
  ·refine thn (T.item (zW X N' scope cl C s3 (upd H2 l (.lst [])) fp) rfl rfl rfl hc i [] s5 σ5 H5 (λ_ _=>False) I5 (stat fr5) st5 go) λr s6 ⟨u,hr,h6⟩=>?_
   subst hr
   refine thn h6 λ_ s7 ⟨x,H7,I7,r7,y7,st7,fr7⟩=>?_
   have I7':=I7.pinned (stat fr7) (T.obj _ _ st7)
   refine thn (hg cl C s3 _ fp _ s7 σ5 H7 x u _ I7' r7 (step x H7 y7)) λ_ s8 ⟨σ8,H8,I8,q8⟩=>?_
   refine thn (ht cl C s3 _ fp _ s8 σ8 H8 _ I8 q8) λb s9 ⟨H9,I9,q9⟩=>?_
   have back:∀{s':Shared} {H':Hp},Inv (zW X N' scope cl C s3 (upd H2 l (.lst [])) fp) ([]++zeC fp s7.heap) σ8 H' s'->tn (i+1) s'.heap/\∀b∈fp,H' b=none:=λ{s' H'} I'=>by
    refine⟨T.keep _ _ _ st7 λb hb o e=>(I'.pin (b,o) (List.mem_append_right _ (List.mem_append_right _ (zbc hb e)))).1,λb hb=>?_⟩
    obtain⟨o,e,d⟩:=T.obj _ _ st7 b hb
    exact(I'.pin (b,o) (List.mem_append_right _ (List.mem_append_right _ (zbc hb e)))).2.1
   cases b with
   |false=>
    obtain⟨hl9,n9⟩:=q9
    obtain⟨m',hm,w9⟩:=hN _ _ _ n9
    obtain⟨t9,fr9⟩:=back I9
    exact⟨m',hm,i+1,ys,σ8,H9,I9.unpinned,t9,fr9,hl9,w9⟩
   |true=>
    refine thn (he cl C s3 _ fp _ s9 σ8 H9 _ I9 q9) λxv s10 ⟨y,H10,I10,r10,hl10,hz,n10⟩=>?_
    obtain⟨m',hm,w10⟩:=hN _ _ _ n10
    refine thn (zaZ (X:=zW X N' scope cl C s3 (upd H2 l (.lst [])) fp) _ s10 σ8 H10 (.ref l) [y] (.ref l) [xv] (λv H'=>H'=upd H10 l (.lst (ys ++ [y]))) I10 rfl (.cons r10 .nil) ⟨l,ys,y,rfl,rfl,hl10,hz,rfl⟩) λ_ s11 ⟨_,H11,I11,_,e11⟩=>?_
    subst e11
    obtain⟨t11,fr11⟩:=back I11
    exact⟨m',hm,i+1,ys ++ [y],σ8,_,I11.unpinned,t11,fr11,zb,w10⟩
 exact codeAny_compStart_list loop (T.self _ 0 _ _ _ st4 loop)
end
section
variable{κ:Type}[DecidableEq κ]
noncomputable def zal(kvs:List (κ×V))(k:κ):Option V:=(kvs.find? λkv=>decide (kv.1=k)).map (·.2)
noncomputable def zO(kvs:List (κ×V))(k:κ)(v:V):List (κ×V):=
 if(kvs.any λkv=>decide (kv.1=k))=true then kvs.map (λkv=>if kv.1=k then(kv.1,v)else kv)else kvs ++ [(k,v)]
theorem zaA{p:κ×V}{r:List (κ×V)}{k:κ}(e:p.1=k):zal (p::r) k=some p.2:=by simp[zal,List.find?_cons,e]
theorem zay{p:κ×V}{r:List (κ×V)}{k:κ}(e:¬p.1=k):zal (p::r) k=zal r k:=by simp[zal,List.find?_cons,e]
theorem zda(k:κ):∀kvs:List (κ×V),(kvs.any λkv=>decide (kv.1=k))=(zal kvs k).isSome
 |[]=>rfl
 |p::r=>by
  rw[List.any_cons]
  by_cases e:p.1=k
  ·simp only[zaA e,decide_eq_true e,Bool.true_or,Option.isSome_some]
  ·rw[zay e,decide_eq_false e,Bool.false_or];exact zda k r
theorem ziD(k j:κ)(y:V):∀kvs:List (κ×V),zal (kvs.map λkv=>if kv.1=k then(kv.1,y)else kv) j=(zal kvs j).map λx=>if j=k then y else x
 |[]=>rfl
 |p::r=>by
  have ih:=ziD k j y r
  rw[List.map_cons]
  by_cases h:p.1=k
  ·rw[if_pos h]
   by_cases e:p.1=j
   ·rw[zaA (p:=(p.1,y)) e,zaA e,Option.map_some,if_pos (e.symm.trans h)]
   ·rw[zay (p:=(p.1,y)) e,zay e,ih]
  ·rw[if_neg h]
   by_cases e:p.1=j
   ·rw[zaA (p:=p) e,zaA e,Option.map_some,if_neg (λz=>h (e.trans z))]
   ·rw[zay (p:=p) e,zay e,ih]
theorem zgP(k j:κ)(y:V):∀kvs:List (κ×V),zal kvs k=none->zal (kvs ++ [(k,y)]) j=if j=k then some y else zal kvs j
 |[],_=>by
  by_cases e:k=j
  ·rw[if_pos e.symm];exact zaA (p:=(k,y)) e
  ·rw[if_neg (λz=>e z.symm)];exact zay (p:=(k,y)) e
 |p::r,hn=>by
  rw[List.cons_append]
  have hk:¬p.1=k:=λz=>by rw[zaA z] at hn;cases hn
  rw[zay hk] at hn
  have ih:=zgP k j y r hn
  by_cases e:p.1=j
  ·rw[zaA e,zaA e,if_neg (λz=>hk (e.trans z))]
  ·rw[zay e,zay e,ih]
theorem zlS(kvs:List (κ×V))(k j:κ)(y:V):zal (zO kvs k y) j=if j=k then some y else zal kvs j:=by
 unfold zO
 by_cases a:(kvs.any λkv=>decide (kv.1=k))=true
 ·rw[if_pos a,ziD]
  rw[zda] at a
  by_cases e:j=k
  ·obtain ⟨x,hx⟩:=Option.isSome_iff_exists.mp a
   rw[if_pos e,e,hx,Option.map_some,if_pos rfl]
  ·rw[if_neg e]
   cases zal kvs j with
   |none=>rfl
   |some x=>rw[Option.map_some,if_neg e]
 ·rw[if_neg a]
  refine zgP k j y kvs ?_
  rw[zda] at a
  cases q:zal kvs k with
  |none=>rfl
  |some x=>rw[q] at a;exact(a rfl).elim
theorem zcv(kvs:List (κ×V))(k:κ)(v:V):(zO kvs k v).length<=kvs.length+1:=by
 unfold zO
 split
 ·rw[List.length_map];omega
 ·rw[List.length_append,List.length_cons,List.length_nil];omega
theorem RelO.isSome_eq{o:Option V}{u:Option Value}(r:RelO o u):o.isSome=u.isSome:=by
 cases o with
 |none=>cases u with
  |none=>rfl
  |some _=>exact (show False from r).elim
 |some _=>cases u with
  |none=>exact (show False from r).elim
  |some _=>rfl
theorem RelO.getD{o:Option V}{u:Option Value}{d:V}{d':Value}(r:RelO o u)(rd:RelV d d'):RelV (o.getD d) (u.getD d'):=by
 cases o with
 |none=>cases u with
  |none=>exact rd
  |some _=>exact (show False from r).elim
 |some _=>cases u with
  |none=>exact (show False from r).elim
  |some _=>exact r
theorem KV.val{kvs:List (κ×V)}{vs:List (κ×Value)}(r:KV kvs vs)(k:κ):RelO (zal kvs k) (valueAt vs k):=by
 unfold KV at r
 induction r with
 |nil=>exact True.intro
 | @cons p q ps qs h t ih=>
   obtain⟨h1,h2⟩:=h
   by_cases e:p.1=k
   ·have e':q.1=k:=h1.symm.trans e
    have b:valueAt (q::qs) k=some q.2:=by simp[valueAt,List.find?_cons,e']
    rw[zaA e,b];exact h2
   ·have e':¬q.1=k:=λz=>e (h1.trans z)
    have b:valueAt (q::qs) k=valueAt qs k:=by simp[valueAt,List.find?_cons,e']
    rw[zay e,b];exact ih
theorem KV.any{kvs:List (κ×V)}{vs:List (κ×Value)}(r:KV kvs vs)(k:κ):(kvs.any λkv=>decide (kv.1=k))=vs.any λkv=>decide (kv.1=k):=by
 unfold KV at r
 induction r with
 |nil=>rfl
 |cons h t ih=>rw[List.any_cons,List.any_cons,ih,h.1]
theorem KV.repl{kvs:List (κ×V)}{vs:List (κ×Value)}(r:KV kvs vs)(k:κ){y:V}{u:Value}(ry:RelV y u):
 KV (kvs.map λkv=>if kv.1=k then(kv.1,y)else kv) (vs.map λkv=>if kv.1=k then(kv.1,u)else kv):=by
 unfold KV at r⊢
 induction r with
 |nil=>exact .nil
 | @cons p q ps qs h t ih=>
   rw[List.map_cons,List.map_cons]
   refine .cons ?_ ih
   obtain⟨h1,h2⟩:=h
   by_cases e:p.1=k
   ·rw[if_pos e,if_pos (h1.symm.trans e)];exact⟨h1,ry⟩
   ·rw[if_neg e,if_neg (λz=>e (h1.trans z))];exact⟨h1,h2⟩
theorem KV.put{kvs:List (κ×V)}{vs:List (κ×Value)}(r:KV kvs vs)(k:κ){y:V}{u:Value}(ry:RelV y u):KV (zO kvs k y) (stored vs k u):=by
 unfold zO stored
 rw[r.any k]
 by_cases e:(vs.any λkv=>decide (kv.1=k))=true
 ·rw[if_pos e,if_pos e];exact r.repl k ry
 ·rw[if_neg e,if_neg e];exact Paired.snoc r ⟨rfl,ry⟩
theorem KV.length{kvs:List (κ×V)}{vs:List (κ×Value)}(r:KV kvs vs):kvs.length=vs.length:=Paired.length r
end
theorem zid{P:Program}{w:World}{k:Key}{u:Value}(r:RelV (kV k) u):(zU P w).is k u=true:=by
 cases k with
 |inl i=>obtain ⟨t,e⟩:=(show∃t,u=Value.int i t from r);subst e;exact zh9 P w i t
 |inr x=>obtain ⟨t,e⟩:=(show∃t,u=Value.str x t from r);subst e;exact ziB P w x t
theorem zgS{P:Program}{w:World}:∀{ks:List Key} {us:List Value},Vals (ks.map kV) us->ItemsAre (zU P w) ks us
 |[],_,r=>by rw[List.map_nil] at r;cases r;exact .nil
 |k::ks,_,r=>by
  rw[List.map_cons] at r
  cases r with
  |cons h t=>exact .cons (zid h) (zgS t)
abbrev KT(H:Hp):List (List Key×V)->List (List Key×Addr×Value)->Prop:=Paired λp q=>p.1=q.1/\H q.2.1=some (.tup (p.1.map kV))/\RelV p.2 q.2.2
theorem KT.val{H:Hp}{kvs:List (List Key×V)}{xs:List (List Key×Addr×Value)}(r:KT H kvs xs)(k:List Key):RelO (zal kvs k) ((atKey xs k).map (·.2)):=by
 induction r with
 |nil=>exact True.intro
 | @cons p q ps qs h t ih=>
   obtain⟨h1,_,h2⟩:=h
   by_cases e:p.1=k
   ·have e':q.1=k:=h1.symm.trans e
    have b:atKey (q::qs) k=some q.2:=by simp[atKey,List.find?_cons,e']
    rw[zaA e,b];exact h2
   ·have e':¬q.1=k:=λz=>e (h1.trans z)
    have b:atKey (q::qs) k=atKey qs k:=by simp[atKey,List.find?_cons,e']
    rw[zay e,b];exact ih
theorem KT.repl{H:Hp}{kvs:List (List Key×V)}{xs:List (List Key×Addr×Value)}(r:KT H kvs xs)(k:List Key){y:V}{u:Value}(ry:RelV y u):
 KT H (kvs.map λkv=>if kv.1=k then(kv.1,y)else kv) (xs.map (putAt k u)):=by
 induction r with
 |nil=>exact .nil
 | @cons p q ps qs h t ih=>
   rw[List.map_cons,List.map_cons]
   refine .cons ?_ ih
   obtain⟨h1,h2,h3⟩:=h
   unfold putAt
   by_cases e:p.1=k
   ·rw[if_pos e,if_pos (h1.symm.trans e)];exact⟨h1,h2,ry⟩
   ·rw[if_neg e,if_neg (λz=>e (h1.trans z))];exact⟨h1,h2,h3⟩
theorem KT.put{H:Hp}{kvs:List (List Key×V)}{xs:List (List Key×Addr×Value)}(r:KT H kvs xs)(k:List Key){b:Addr}{y:V}{u:Value}(hb:H b=some (.tup (k.map kV)))(ry:RelV y u):
 KT H (zO kvs k y) (storedH xs k b u):=by
 have e:(kvs.any λkv=>decide (kv.1=k))=(atKey xs k).isSome:=by
  rw[zda,(r.val k).isSome_eq,Option.isSome_map]
 unfold zO storedH
 rw[e]
 by_cases q:(atKey xs k).isSome=true
 ·rw[if_pos q,if_pos q];exact r.repl k ry
 ·rw[if_neg q,if_neg q];exact Paired.snoc r ⟨rfl,hb,ry⟩
theorem KT.keeps{H H':Hp}{kvs:List (List Key×V)}{xs:List (List Key×Addr×Value)}(r:KT H kvs xs)(ht:∀b ys,H b=some (.tup ys)->H' b=some (.tup ys)):KT H' kvs xs:=
 Paired.mapP r λ_ _ z=>⟨z.1,ht _ _ z.2.1,z.2.2⟩
section
variable{P:Program}{w:World}{H:Hp}{h:Heap}{a:Addr}
theorem zoW{u:HO}(ok:HOk P w H h)(e:Rd H a u):ObjOk P w H h a u:=e.ok ok
theorem zij{kvs:List (Key×V)}(ok:HOk P w H h)(e:Rd H a (.dK kvs)):kvs.length<=sizeLine/\(a==sysModules)=false/\∃vs,KV kvs vs/\h.DictOf (zU P w) a vs:=
 show ObjOk P w H h a (.dK kvs)from zoW ok e
theorem zkr{kvs:List (Key×V)}(ok:HOk P w H h)(e:H a=some (.dK kvs)):kvs.length<=sizeLine/\(a==sysModules)=false/\∃vs,KV kvs vs/\h.DictOf (zU P w) a vs:=zij ok (.inl e)
theorem zhn{ks:List Key}(ok:HOk P w H h)(e:H a=some (.tup (ks.map kV))):(tupleKind (zU P w)).is h ks a:=by
 obtain⟨_,its,r,⟨o,h1,h2,n,h3⟩,_⟩:=(show ObjOk P w H h a (.tup (ks.map kV))from ok a _ e)
 exact⟨o,its.toArray,n,h1,h2,h3,by simpa using zgS r⟩
theorem zix{kvs:List (List Key×V)}(ok:HOk P w H h)(e:Rd H a (.dT kvs)):kvs.length<=sizeLine/\(a==sysModules)=false/\
 ∃xs,KT H kvs xs/\h.DictOfH (tupleKind (zU P w)) a xs:=by
 obtain⟨z,y,xs,r,o,es,ep,h1,h2,h3,h4,h5⟩:=(show ObjOk P w H h a (.dT kvs)from zoW ok e)
 refine⟨z,y,xs,r,o,es,ep,h1,h2,h3,h4,λx hx=>?_,h5⟩
 have all:∀{l:List (List Key×V)} {m:List (List Key×Addr×Value)},KT H l m->∀x∈m,(tupleKind (zU P w)).is h x.1 x.2.1:=by
  intro l m q
  induction q with
  |nil=>intro x hx;exact nomatch hx
  | @cons p q ps qs hq t ih=>
    intro x hx
    rcases List.mem_cons.mp hx with e|hx
    ·subst e
     exact zhn ok (by rw[←hq.1];exact hq.2.1)
    ·exact ih x hx
 exact all r x hx
theorem zp9{kvs:List (List Key×V)}(ok:HOk P w H h)(e:H a=some (.dT kvs)):kvs.length<=sizeLine/\(a==sysModules)=false/\
 ∃xs,KT H kvs xs/\h.DictOfH (tupleKind (zU P w)) a xs:=zix ok (.inl e)
end
def DGet(H:Hp)(a:Addr)(y:V)(r:Option V):Prop:=
 (∃kvs k,Rd H a (.dK kvs)/\y=kV k/\r=zal kvs k)\/∃kvs k b,Rd H a (.dT kvs)/\y= .ref b/\H b=some (.tup (k.map kV))/\r=zal kvs k
def DPut(H:Hp)(a:Addr)(y v:V)(H':Hp):Prop:=
 (∃kvs k,H a=some (.dK kvs)/\y=kV k/\kvs.length<sizeLine/\H'=upd H a (.dK (zO kvs k v)))\/
 ∃kvs k b,H a=some (.dT kvs)/\y= .ref b/\H b=some (.tup (k.map kV))/\kvs.length<sizeLine/\H'=upd H a (.dT (zO kvs k v))
theorem DGet.k{H:Hp}{a:Addr}{kvs:List (Key×V)}{k:Key}(e:H a=some (.dK kvs)):DGet H a (kV k) (zal kvs k):= .inl ⟨kvs,k, .inl e,rfl,rfl⟩
theorem DPut.t{H:Hp}{a b:Addr}{kvs:List (List Key×V)}{k:List Key}{v:V}(e:H a=some (.dT kvs))(eb:H b=some (.tup (k.map kV)))(hl:kvs.length<sizeLine):
 DPut H a (.ref b) v (upd H a (.dT (zO kvs k v))):= .inr ⟨kvs,k,b,e,rfl,eb,hl,rfl⟩
section
variable{X:Cx}{pins:List (Addr×Obj)}{σ:St}{H:Hp}{s:Shared}{a:Addr}{y v:V}{u r:Value}{o:Option V}{A:Around}{E:Value->Shared->Prop}
theorem Inv.big(I:Inv X pins σ H s):sysModules<s.heap.objs.size:=by
 have h:mainGlobals<s.heap.objs.size:=(I.mod.glob.keeps I.bk).lt
 exact Nat.lt_trans (by decide) h
theorem zgQ{Q:Value->Shared->Prop}(hu:A.units+1<cLine)(I:Inv X pins σ H s)(g:DGet H a y (some v))(ry:RelV y u)(h:∀w' s',Inv X pins σ H s'->RelV v w'->Q w' s'):
 wpAny (model X.prog X.w) A (getItem (.ref a) u) Q E s:=by
 rcases g with⟨kvs,k,e,ey,l⟩|⟨kvs,k,b,e,ey,eb,l⟩
 ·subst ey
  obtain⟨z,hd,vs,rel,dd⟩:=zij I.hok e
  obtain⟨w',hw,rw'⟩:=RelO.some_of (v:=v) (o:=valueAt vs k) (by rw[l];exact rel.val k)
  exact wpAny_getItem_of (zid ry) dd.mapOf hw (h w' _ (I.tok _) rw')
 ·subst ey
  cases(show u=Value.ref b from ry)
  obtain⟨z,hd,xs,rel,dd⟩:=zix I.hok e
  obtain⟨w',hw,rw'⟩:=RelO.some_of (v:=v) (o:=(atKey xs k).map (·.2)) (by rw[l];exact rel.val k)
  obtain⟨p,hp,hp2⟩:=Option.map_eq_some_iff.mp hw
  refine wpAny_getItem_heap (tupleKind_room_in1 hu) (zhn I.hok eb) dd hp ?_
  rw[hp2]
  exact h w' _ (I.tok _) rw'
theorem zg6{h':Heap}{t':Nat}{ob:HO}(I:Inv X pins σ H s)(mu:Mut (H a))(hs:Heap.SameBut a s.heap h')(he:∃q,h'.get? a=some q)(new:ObjOk X.prog X.w (upd H a ob) h' a ob):
 Inv X pins σ (upd H a ob) {s with heap:=h',toks:=t'}:=
 I.write (x:=a) (e:=a) mu (.inl rfl) (λb q hb z=>(hs.2 b hb).trans z) he new
theorem zmp{P:Program}{w:World}{H':Hp}{h':Heap}{kvs:List (Key×V)}{vs:List (Key×Value)}(z:kvs.length<=sizeLine)(hd:(a==sysModules)=false)(rel:KV kvs vs)(dd:h'.DictOf (zU P w) a vs):
 ObjOk P w H' h' a (.dK kvs):=⟨z,hd,vs,rel,dd⟩
theorem zgY{H':Hp}{Q:Unit->Shared->Prop}(hu:A.units+1<cLine)(I:Inv X pins σ H s)(g:DPut H a y v H')(ry:RelV y u)(rv:RelV v r)(h:∀s',Inv X pins σ H' s'->Q () s'):
 wpAny (model X.prog X.w) A (setItem (.ref a) u r) Q E s:=by
 rcases g with⟨kvs,k,e,ey,l,eH⟩|⟨kvs,k,b,e,ey,eb,l,eH⟩
 ·subst ey eH
  obtain⟨z,hd,vs,rel,dd⟩:=zkr I.hok e
  have hz:vs.length<=sizeLine:=by rw[←rel.length];exact z
  have hl:(zO kvs k v).length<=sizeLine:=by have:=zcv kvs k v;omega
  refine wpAny_setItem_pairs (hsz:=hz) (zid ry) dd λh' dd' hs=>h _ ?_
  have he:∃q,h'.get? a=some q:=let⟨q,_,_,hq,_⟩:=dd';⟨q,hq⟩
  exact zg6 I (by rw[e];exact True.intro) hs he (zmp hl hd (rel.put k rv) dd')
 ·subst ey eH
  cases(show u=Value.ref b from ry)
  obtain⟨z,hd,xs,rel,dd⟩:=zp9 I.hok e
  have hz:xs.length<=sizeLine:=by rw[←Paired.length rel];exact z
  have hl:(zO kvs k v).length<=sizeLine:=by have:=zcv kvs k v;omega
  refine wpAny_setItem_heap (hsz:=hz) (tupleKind_room_in1 hu) (zhn I.hok eb) dd λh' dd' hs=>h _ ?_
  obtain⟨q,es,ep,hq,h2,h3,h4,_,h5⟩:=dd'
  refine zg6 I (by rw[e];exact True.intro) hs ⟨q,hq⟩ ⟨hl,hd,_,(rel.put k eb rv).keeps λc ys ec=>?_,q,es,ep,hq,h2,h3,h4,h5⟩
  rw[zh (zB ec e (λz=>nomatch z))]
  exact ec
end
section
variable{X:Cx}{pins:List (Addr×Obj)}{σ:St}{H:Hp}{s:Shared}{a:Addr}{kvs:List (Key×V)}{k:Key}{u:Value}{A:Around}{E:Value->Shared->Prop}
end
def zpP(i:Expr):Prop:=∀ov iv,subscripted i false ov iv=operate [ov,iv] (getItem ov iv)
theorem znJ{prog:Program}{w:World}{A:Around}{E:Value->Shared->Prop}{s:Shared}{env:Env}{value slice:Expr}{pos:Pos}{T id:String}{Q:Value->Shared->Prop}
 (hl:typeLookup (.type T) "__getitem__"=pure (some (.builtin id))) (hs:zpP slice)
 (h:wpAny (model prog w) A (eval value env) (λo s₁=>wpAny (model prog w) A (eval slice env) (λi s₂=>s₂.TypeIs o T/\wpAny (model prog w) A (getItem o i) Q E s₂) E s₁) E s):
 wpAny (model prog w) A (eval (.Subscript value slice pos) env) Q E s:=by
 refine Subscript_ (wpAny_mono h (λo s₁ h₁=>wpAny_mono h₁ (λi s₂ h₂=>?_) λ_ _ x=>x) λ_ _ x=>x)
 obtain⟨hT,h₂⟩:=h₂
 unfold subscriptTail
 refine wpAny_bind ?_
 rw[getitemInPython_of_ne hT.not_modules]
 refine wpAny_bind (wpAny_specialOf hT hl ?_)
 have fin:wpAny (model prog w) A (subscripted slice false o i) (λr s₃=>wpAny (model prog w) A (letTemporaryGo value o r>>=λ_=>pure r) Q E s₃) E s₂:=by
  rw[hs o i]
  exact wpAny_operating (wpAny_mono h₂ (λr s₃ h₃=>wpAny_bind (wpAny_letTemporaryGo (wpAny_pure h₃))) λ_ _ x=>x)
 first
  |exact wpAny_pure (wpAny_bind fin)
  |exact wpAny_bind (wpAny_pure (wpAny_bind fin))
  |exact wpAny_bind fin
theorem zhS{X:Cx}{pins:List (Addr×Obj)}{σ:St}{H:Hp}{s:Shared}{a:Addr}{y:V}{o:Option V}(I:Inv X pins σ H s)(g:DGet H a y o):s.TypeIs (.ref a) "dict":=by
 rcases g with⟨kvs,k,e,_,_⟩|⟨kvs,k,b,e,_,_,_⟩
 ·obtain ⟨_,_,vs,_,dd⟩:=zij I.hok e
  exact dd.typeIs
 ·obtain ⟨_,_,xs,_,dd⟩:=zix I.hok e
  exact dd.typeIs
noncomputable def zoQ(td ty:TE):TE:=λσ H Q=>td σ H λx H1=>ty σ H1 λy H2=>∃a v,x= .ref a/\DGet H2 a y (some v)/\Q v H2
noncomputable def zoI(td ty tv:TE):TS:=λD σ H=>tv σ H λv H1=>td σ H1 λx H2=>ty σ H2 λy H3=>∃a H4,x= .ref a/\DPut H3 a y v H4/\D.nx σ H4
def zoY(td ty tv:TE)(rd:V->V->Hp->VK->Prop):TS:=λD σ H=>td σ H λx H1=>ty σ H1 λy H2=>∃a v,x= .ref a/\DGet H2 a y (some v)/\
 tv σ H2 λy2 H3=>rd v y2 H3 λz H4=>∃H5,DPut H4 a y z H5/\D.nx σ H5
section
variable{X:Cx}{o i e value:Expr}{pos pos' tpos:Pos}{td ty tv:TE}
theorem zni(hu:X.A.units+1<cLine)(ho:PE X o td)(hi:PE X i ty)(hs:zpP i):PE X (.Subscript o i pos) (zoQ td ty):=by
 intro pins s σ H Q I h
 refine znJ PySem.F.slot_dict_getitem.lookup hs (thn (ho pins s σ H _ I h) λu s1 ⟨x,H1,I1,rx,q1⟩=>thn (hi pins s1 σ H1 _ I1 q1) λiv s2 ⟨y,H2,I2,ry,a,v,ex,g,q2⟩=>?_)
 subst ex
 obtain rfl:u=Value.ref a:=rx
 exact⟨zhS I2 g,zgQ hu I2 g ry λw' s3 I3 rw'=>⟨v,H2,I3,rw',q2⟩⟩
theorem znG(hu:X.A.units+1<cLine)(ho:PE X o td)(hi:PE X i ty)(hv:PE X value tv)(hs:swapsWith value (some (.Subscript o i pos')) pos.line X.env=pure false):
 PS X (.Assign [.Subscript o i pos'] value pos) (zoI td ty tv):=by
 intro pins s σ H D I h
 refine wpAny_Assign_Subscript (thn (hv pins s σ H _ I h) λr s1 ⟨v,H1,I1,rv,q1⟩=>thn (ho pins s1 σ H1 _ I1 q1) λu s2 ⟨x,H2,I2,rx,q2⟩=>thn (hi pins s2 σ H2 _ I2 q2) λiv s3 ⟨y,H3,I3,ry,a,H4,ex,g,q3⟩=>?_) hs
 subst ex
 obtain rfl:u=Value.ref a:=rx
 exact zgY hu I3 g ry rv λs4 I4=>⟨σ,H4,I4,q3⟩
theorem znd{op:Operator}{rd:V->V->Hp->VK->Prop}(hu:X.A.units+1<cLine)(ho:PE X o td)(hi:PE X i ty)(hv:PE X value tv)(hop:zmo X op rd)
 (ha:∀ov iv new,augStore i ov iv new=(do holding [new,ov,iv] (setItem ov iv new);release [new,ov,iv] [];pure .next)):PS X (.AugAssign (.Subscript o i tpos) op value pos) (zoY td ty tv rd):=by
 intro pins s σ H D I h
 refine wpAny_AugAssign_SubscriptAny (thn (ho pins s σ H _ I h) λu s1 ⟨x,H1,I1,rx,q1⟩=>thn (hi pins s1 σ H1 _ I1 q1) λiv s2 ⟨y,H2,I2,ry,a,v,ex,g,q2⟩=>?_) ha
 subst ex
 obtain rfl:u=Value.ref a:=rx
 refine zgQ hu I2 g ry λw' s3 I3 rw'=>thn (hv pins s3 σ H2 _ I3 q2) λw2 s4 ⟨y2,H3,I4,ry2,q3⟩=>thn (hop pins s4 σ H3 v y2 w' w2 _ I4 rw' ry2 q3) λw3 s5 ⟨z,H4,I5,rz,H5,g5,q4⟩=>?_
 exact zgY hu I5 g5 ry rz λs6 I6=>⟨σ,H5,I6,q4⟩
end
theorem zh2{P:Program}{w:World}{H:Hp}(h:Heap)(hb:sysModules<h.objs.size):ObjOk P w H (h.push {cls:= .type "dict",data:= .dict #[]}) h.objs.size (.dK []):=
 ⟨Nat.zero_le _,beq_eq_false_iff_ne.mpr (Ne.symm (Nat.ne_of_lt hb)),[], .nil,Heap.DictOf.new h⟩
theorem zmN{P:Program}{w:World}{H:Hp}(h:Heap)(hb:sysModules<h.objs.size):ObjOk P w H (h.push {cls:= .type "dict",data:= .dict #[]}) h.objs.size (.dT []):=
 ⟨Nat.zero_le _,beq_eq_false_iff_ne.mpr (Ne.symm (Nat.ne_of_lt hb)),[], .nil,_, #[],0,Heap.get?_push_size _ rfl,⟨rfl,rfl,rfl⟩,rfl,rfl,List.nodup_nil⟩
noncomputable def zlJ:TE:=λ_ H Q=>∀p,H p=none->Q (.ref p) (upd H p (.dK []))
noncomputable def zmZ:TE:=λ_ H Q=>∀p,H p=none->Q (.ref p) (upd H p (.dT []))
section
variable{X:Cx}{pos:Pos}
theorem zlL:PE X (.Dict [] [] pos) zlJ:=λpins s σ H Q I h=>
 wpAny_Dict_empty ⟨.ref s.heap.objs.size,_,I.laid (a:=s.heap.objs.size) (o:= .dK []) (t':=s.toks) (λ_ _ q=>Heap.get?_push_of_some _ q) (Nat.le_refl _) (zh2 s.heap I.big),rfl,h _ (I.hok.fresh (Nat.le_refl _))⟩
theorem zm4:PE X (.Dict [] [] pos) zmZ:=λpins s σ H Q I h=>
 wpAny_Dict_empty ⟨.ref s.heap.objs.size,_,I.laid (a:=s.heap.objs.size) (o:= .dT []) (t':=s.toks) (λ_ _ q=>Heap.get?_push_of_some _ q) (Nat.le_refl _) (zmN s.heap I.big),rfl,h _ (I.hok.fresh (Nat.le_refl _))⟩
end
def zjt:List (TE×TE)->St->Hp->(List (V×V)->Hp->Prop)->Prop
 |[],_,H,Q=>Q [] H
 |(tk,tv)::r,σ,H,Q=>tk σ H λx H1=>tv σ H1 λy H2=>zjt r σ H2 λps H3=>Q ((x,y)::ps) H3
abbrev VV:List (V×V)->List (Value×Value)->Prop:=Paired λp q=>RelV p.1 q.1/\RelV p.2 q.2
def PPs(X:Cx)(pos:Pos)(keys:List (Option Expr))(values:List Expr)(trs:List (TE×TE)):Prop:=
 ∀(pins:List (Addr×Obj)) (s:Shared) (σ:St) (H:Hp) (Q:List (V×V)->Hp->Prop),Inv X pins σ H s->zjt trs σ H Q->
  wpAny (model X.prog X.w) X.A (evalPairs (pairTrees keys values X.env pos)) (λvs s'=>∃ps H',Inv X pins σ H' s'/\VV ps vs/\Q ps H') X.xe s
theorem znI{X:Cx}{pos:Pos}:PPs X pos [] [] []:=λpins s σ H Q I h=>pairTrees_nil_walk ⟨[],H,I, .nil,h⟩
theorem zly{X:Cx}{pos:Pos}{k v:Expr}{ks:List (Option Expr)}{vs:List Expr}{tk tv:TE}{trs:List (TE×TE)}(hk:PE X k tk)(hv:PE X v tv)(hr:PPs X pos ks vs trs):
 PPs X pos (some k::ks) (v::vs) ((tk,tv)::trs):=λpins s σ H Q I h=>
 pairTrees_cons_walk (thn (hk pins s σ H _ I h) λu s1 ⟨x,H1,I1,rx,q1⟩=>thn (hv pins s1 σ H1 _ I1 q1) λw2 s2 ⟨y,H2,I2,ry,q2⟩=>
  thn (hr pins s2 σ H2 _ I2 q2) λws s3 ⟨ps,H3,I3,rel,q3⟩=>⟨(x,y)::ps,H3,I3, .cons ⟨rx,ry⟩ rel,q3⟩)
noncomputable def zeu(kvs more:List (Key×V)):List (Key×V):=more.foldl (λacc kv=>zO acc kv.1 kv.2) kvs
theorem KV.merge:∀{more:List (Key×V)} {rs:List (Key×Value)} {kvs:List (Key×V)} {vs:List (Key×Value)},KV more rs->KV kvs vs->KV (zeu kvs more) (merged vs rs):=by
 intro more rs kvs vs r
 unfold KV at r
 induction r generalizing kvs vs with
 |nil=>intro q;exact q
 | @cons p q ps qs h t ih=>
   intro r0
   have e:KV (zO kvs p.1 p.2) (stored vs q.1 q.2):=by
    have:=r0.put p.1 h.2
    rw[←h.1];exact this
   exact ih e
theorem zdG:∀(more kvs:List (Key×V)),(zeu kvs more).length<=kvs.length+more.length
 |[],kvs=>by show kvs.length<=kvs.length+0;omega
 |p::r,kvs=>by
  have h1:=zdG r (zO kvs p.1 p.2)
  have h2:=zcv kvs p.1 p.2
  show(zeu (zO kvs p.1 p.2) r).length<=_
  rw[List.length_cons];omega
theorem zfJ{P:Program}{w:World}:∀{kvs:List (Key×V)} {ws:List (Value×Value)},VV (kvs.map λkv=>(kV kv.1,kv.2)) ws->∃rs,Carries (zU P w) ws rs/\KV kvs rs
 |[],_,r=>by rw[List.map_nil] at r;cases r;exact⟨[],True.intro, .nil⟩
 |p::kvs,_,r=>by
  rw[List.map_cons] at r
  cases r with
  | @cons a b as bs h t=>
    obtain⟨rs,c,q⟩:=zfJ (P:=P) (w:=w) t
    obtain⟨b1,b2⟩:=b
    exact⟨(p.1,b2)::rs,⟨zid h.1,rfl,c⟩, .cons ⟨rfl,h.2⟩ q⟩
noncomputable def zoV(trs:List (TE×TE)):TE:=λσ H Q=>∀p,H p=none->zjt trs σ (upd H p (.dK [])) λps H2=>H2 p=some (.dK [])/\∃kvs:List (Key×V),ps=kvs.map (λkv=>(kV kv.1,kv.2))/\kvs.length<=15/\Q (.ref p) (upd H2 p (.dK (zeu [] kvs)))
theorem zob{X:Cx}{pos:Pos}{keys:List (Option Expr)}{values:List Expr}{trs:List (TE×TE)}(h:PPs X pos keys values trs)(hall:keys.all (·.isSome)=true)(hl:keys.length=values.length)(h0:keys≠ [])
 (h15:keys.length<=15):PE X (.Dict keys values pos) (zoV trs):=by
 intro pins s σ H Q I q
 have hn:=I.hok.fresh (Nat.le_refl s.heap.objs.size)
 have I1:=I.laid (a:=s.heap.objs.size) (o:= .dK []) (h':=s.heap.push {cls:= .type "dict",data:= .dict #[]}) (t':=s.toks) (λ_ _ q=>Heap.get?_push_of_some _ q) (Nat.le_refl _) (zh2 s.heap I.big)
 refine wpAny_Dict_walk (knd:=zU X.prog X.w) hall hl h0 h15 (thn (h pins _ σ _ _ I1 (q _ hn)) λws s2 ⟨ps,H2,I2,rel,e,kvs,ep,lk,q2⟩=>?_)
 subst ep
 obtain⟨rs,c,rk⟩:=zfJ (P:=X.prog) (w:=X.w) rel
 obtain⟨z,hd,vs0,r0,dd⟩:=zkr I2.hok e
 cases r0
 refine⟨rs,c,dd,λh' dd' hs=>⟨.ref s.heap.objs.size,_,?_,rfl,q2⟩⟩
 have hz:(zeu [] kvs).length<=sizeLine:=by
  have h1:=zdG kvs []
  rw[List.length_nil] at h1
  rw[sizeLine_eq];omega
 have he:∃q,h'.get? s.heap.objs.size=some q:=let⟨q,_,_,hq,_⟩:=dd';⟨q,hq⟩
 exact zg6 I2 (by rw[e];exact True.intro) hs he (zmp hz hd (rk.merge .nil) dd')
structure M1(X:Cx)(o:Expr)(m:Str)(apos:Pos)(e:Expr)(cpos:Pos):Prop where
 base:attributeBase o m X.env (eval o X.env)=eval o X.env
 few:((backTo cpos (starEach [e] X.env)).all (λx=>!x.1)&&(backToKw cpos (keywordEach [] X.env)).all (λx=>x.1.isSome)
  &&decide (([e]:List Expr).length+([]:List Keyword).length+(if([]:List Keyword).isEmpty then 0 else 1)<30))=true
 line:(apos.endLine==cpos.line)=true
 trees:backTo cpos (starEach [e] X.env)=[(false,eval e X.env)]
structure M2(X:Cx)(o:Expr)(m:Str)(apos:Pos)(e f:Expr)(cpos:Pos):Prop where
 base:attributeBase o m X.env (eval o X.env)=eval o X.env
 few:((backTo cpos (starEach [e,f] X.env)).all (λx=>!x.1)&&(backToKw cpos (keywordEach [] X.env)).all (λx=>x.1.isSome)
  &&decide (([e,f]:List Expr).length+([]:List Keyword).length+(if([]:List Keyword).isEmpty then 0 else 1)<30))=true
 line:(apos.endLine==cpos.line)=true
 trees:backTo cpos (starEach [e,f] X.env)=[(false,eval e X.env),(false,eval f X.env)]
def IsD(H:Hp)(a:Addr):Prop:=(∃kvs,Rd H a (.dK kvs))\/∃kvs,Rd H a (.dT kvs)
theorem zpc{X:Cx}{pins:List (Addr×Obj)}{σ:St}{H:Hp}{s:Shared}{a:Addr}(I:Inv X pins σ H s)(d:IsD H a):
 s.TypeIs (.ref a) "dict"/\(∀b,Value.ref a= .ref b->∃ob,s.heap.get? b=some ob/\ob.dict=none)/\(a==sysModules)=false:=by
 rcases d with⟨kvs,e⟩|⟨kvs,e⟩
 ·obtain ⟨_,hd,vs,_,dd⟩:=zij I.hok e
  refine⟨dd.typeIs,λb q=>?_,hd⟩
  cases q
  obtain⟨ob,_,_,h1,h2,_⟩:=dd
  exact⟨ob,h1,h2.2.1⟩
 ·obtain ⟨_,hd,xs,_,dd⟩:=zix I.hok e
  refine⟨dd.typeIs,λb q=>?_,hd⟩
  cases q
  obtain⟨ob,_,_,h1,h2,_⟩:=dd
  exact⟨ob,h1,h2.2.1⟩
section
variable{X:Cx}{pins:List (Addr×Obj)}{σ:St}{H:Hp}{s:Shared}{a:Addr}{y d:V}{u r:Value}{o:Option V}{A:Around}{E:Value->Shared->Prop}
theorem zpL{Q:Value->Shared->Prop}(hu:A.units+1<cLine)(I:Inv X pins σ H s)(g:DGet H a y o)(ry:RelV y u)(rd:RelV d r)(h:∀w' s',Inv X pins σ H s'->RelV (o.getD d) w'->Q w' s'):
 wpAny (model X.prog X.w) A (call (.builtin "dict.get") [.ref a,u,r]) Q E s:=by
 rcases g with⟨kvs,k,e,ey,l⟩|⟨kvs,k,b,e,ey,eb,l⟩
 ·subst ey
  obtain⟨z,hd,vs,rel,dd⟩:=zij I.hok e
  refine call_meetsIn PySem.F.slot_dict_get dd.typeIs PySem.F.entry_dict_get (PySem.F.args_dict_get_3 _ _ _) (meets_dict_get_default (zU X.prog X.w) a (zid ry) hd r) ⟨_,dd.mapOf,h _ _ (I.tok _) ?_⟩
  rw[l]
  exact(rel.val k).getD rd
 ·subst ey
  cases(show u=Value.ref b from ry)
  obtain⟨z,hd,xs,rel,dd⟩:=zix I.hok e
  refine call_meetsIn PySem.F.slot_dict_get dd.typeIs PySem.F.entry_dict_get (PySem.F.args_dict_get_3 _ _ _) (meetsH_dict_get_default (tupleKind (zU X.prog X.w)) a b hd r) ⟨tupleKind_room_in1 hu,k,xs,zhn I.hok eb,dd,h _ _ (I.tok _) ?_⟩
  rw[l]
  exact(rel.val k).getD rd
end
noncomputable def zmv(td ty tx:TE):TE:=λσ H Q=>td σ H λx H1=>∃a,x= .ref a/\IsD H1 a/\ty σ H1 λy H2=>tx σ H2 λz H3=>∃o,DGet H3 a y o/\Q (o.getD z) H3
section
variable{X:Cx}{o e f:Expr}{apos cpos:Pos}{td ty tx:TE}
theorem zlA(hu:X.A.units+1<cLine)(ho:PE X o td)(he:PE X e ty)(hf:PE X f tx)(m:M2 X o "get" apos e f cpos):PE X (.Call (.Attribute o "get" apos) [e,f] [] cpos) (zmv td ty tx):=by
 intro pins s σ H Q I h
 refine wpAny_Call_method m.base m.few m.line PySem.F.plainAttrs_dict PySem.F.slot_dict_get PySem.F.type_dict_get (thn (ho pins s σ H _ I h) λu s1 ⟨x,H1,I1,rx,a,ex,d,q1⟩=>?_)
 subst ex
 obtain rfl:u=Value.ref a:=rx
 obtain⟨t1,t2,_⟩:=zpc I1 d
 refine⟨t1,t2,?_⟩
 rw[m.trees]
 refine Calls.callWith_builtin rfl (Calls.evalArgs_plain (Calls.spliced_cons (thn (he pins s1 σ H1 _ I1 q1) λiv s2 ⟨y,H2,I2,ry,q2⟩=>
  Calls.spliced_cons (thn (hf pins s2 σ H2 _ I2 q2) λfv s3 ⟨z,H3,I3,rz,ov,g,q3⟩=>Calls.spliced_nil ?_))))
 exact zpL hu I3 g ry rz λw' s4 I4 rw'=>⟨_,H3,I4,rw',q3⟩
end
section
variable{X:Cx}{pins:List (Addr×Obj)}{σ:St}{H:Hp}{s:Shared}{a:Addr}{kvs:List (Key×V)}{A:Around}{E:Value->Shared->Prop}
end
section
variable{X:Cx}{pins:List (Addr×Obj)}{σ:St}{H:Hp}{s:Shared}{a:Addr}{y:V}{u:Value}{A:Around}{E:Value->Shared->Prop}
end
section
variable{X:Cx}
theorem zkb:∀{bs:List Bool} {us:List Value} {i:Nat} {v:Value},Vals (bs.map V.bl) us->us[i]?=some v->∃b,bs[i]?=some b/\v= .bool b
 |[],_,_,_, .nil,e=>by simp at e
 |b::bs,_,0,v, .cons r _,e=>by
  simp at e
  subst e
  exact⟨b,rfl,r⟩
 |b::bs,_,i+1,v, .cons _ t,e=>by
  obtain⟨c,h1,h2⟩:=zkb (i:=i) t (by simpa using e)
  exact⟨c,by simpa using h1,h2⟩
noncomputable def atB(bs:List Bool)(j:Nat):Bool:=match bs[j]? with|some b=>b|none=>true
theorem zhG(bs:List Bool):(List.range bs.length).all (atB bs)=bs.all id:=by
 refine Eq.trans ?_ (PyProof.Rows.all_rangeD bs (id:Bool->Bool))
 congr 1
 funext j
 unfold atB
 cases bs[j]?<;>rfl
theorem zkA{X:Cx}(hc:X.calm=true):CallR X (.builtin "all") (λxs H Q=>∃(p:Addr) (bs:List Bool),xs=[.ref p]/\SqL X.K H p (bs.map V.bl)/\Q (.bl (bs.all id)) H):=by
 intro pins s σ H xs us Q I r h
 obtain⟨p,bs,rfl,hq,q⟩:=h
 obtain⟨u,rfl,ru⟩:=zc8 r
 cases ru
 obtain⟨its,rv,pl,hz⟩:=I.list hq
 have hp:p≠s.heap.objs.size:=Nat.ne_of_lt pl.lt
 refine call_all_walk (wpAny_pyIter_list pl.isList ?_)
 refine⟨s.heap.objs.size,_,_,_,_,_,atB bs,rfl,Walks.list (A:=X.A.in1) (show X.A.in1.handled=none from I.ok.hd hc) _ p hp its.toArray,⟨⟨_,Heap.get?_push_size _ rfl,rfl,rfl⟩,?_⟩,?_,λh' tk hk=>?_⟩
 ·obtain ⟨o,n,e,c,_,d⟩:=pl
  exact⟨o,Heap.get?_push_of_some _ e,c,n,d⟩
 ·intro i v s' Q' E' hP hQ
  obtain⟨b,h1,rfl⟩:=zkb (i:=i) (v:=v) rv (by simpa using hP)
  refine wpAny_truthy_bool ?_
  have e:atB bs i=b:=by unfold atB;rw[h1]
  rw[e] at hQ
  exact hQ
 ·have hl:its.toArray.size=bs.length:=by
   have:=rv.length
   simp at this
   simp[this]
  rw[hl,zhG]
  refine⟨.bl (bs.all id),H,I.kept λb o e=>hk b o ?_ (Heap.get?_push_of_some _ e),rfl,q⟩
  intro z
  have:b=s.heap.objs.size:=by simpa using z
  exact absurd (Heap.lt_size e) (by rw[this];exact Nat.lt_irrefl _)
theorem za9:∀{ys:List Str} {us:List Value},Vals (ys.map V.str) us->StrsAre us ys
 |[],_, .nil=>by first|exact .nil|trivial
 |y::ys,_, .cons r t=>by
  obtain⟨k,rfl⟩:=r
  first
   |exact .cons _ _ (za9 t)
   |exact .cons (za9 t)
   |exact⟨⟨k,rfl⟩,za9 t⟩
noncomputable def zfp(z:Str)(n:Nat):Str:=⟨(List.replicate n z.cps).foldl (·++·) #[]⟩
theorem zi1:OpR X (binaryOp .Mult) (λx y H Q=>∃z n,x= .str z/\y= .int n/\1<n/\n<=1000/\0<z.length/\z.length<=1000/\Q (.str (zfp z n.toNat)) H):=by
 intro pins s σ H x y v u Q I rx ry h
 obtain⟨z,n,rfl,rfl,h1,h2,h3,h4,q⟩:=h
 obtain⟨t,rfl⟩:=rx
 obtain⟨t',rfl⟩:=ry
 have e1:¬n<1:=by omega
 have e2:(n==1||z.length==0)=false:=by
  have a:(n==1)=false:=beq_eq_false_iff_ne.mpr (by omega)
  have b:(z.length==0)=false:=beq_eq_false_iff_ne.mpr (by omega)
  rw[a,b];rfl
 have hz:z.length*n.toNat<=1000*1000:=Nat.mul_le_mul h4 (by omega)
 refine PySem.P.mul_str ?_ (λ_ _=>?_) (λ_ _=>?_) ?_
 ·have a:decide (n< -(2^63:Int))=false:=decide_eq_false (by omega)
  have b:decide (n≥2^63)=false:=decide_eq_false (by omega)
  rw[a,b];rfl
 ·have hd:(1000:Int)<=(2^63 -1)/n:=by
   apply Int.le_ediv_of_mul_le (by omega)
   omega
  omega
 ·have hb:z.length*n.toNat<=sizeLine:=Nat.le_trans hz (by decide)
  unfold Builtin.Str.tooLong
  exact decide_eq_false (by omega)
 ·rw[if_neg e1,e2]
  simp only[Bool.false_eq_true,if_false]
  refine⟨?_,⟨.str _,H,I.tok _,⟨_,rfl⟩,q⟩⟩
  have key:∀(k:Nat) (acc:Array Nat),((List.replicate k z.cps).foldl (·++·) acc).size=acc.size+k*z.cps.size:=by
   intro k
   induction k with
   |zero=>intro acc;simp
   |succ k ih=>intro acc;rw[List.replicate_succ,List.foldl_cons,ih,Array.size_append,Nat.succ_mul];omega
  have hk:=key n.toNat #[]
  have hz':n.toNat *z.cps.size<=1000*1000:=Nat.mul_le_mul (by omega) h4
  have hsl:1000*1000<=sizeLine:=by decide
  show((List.replicate n.toNat z.cps).foldl (·++·) #[]).size<=sizeLine
  rw[hk]
  simp only[Array.size_empty]
  omega
theorem zlP:CallR X (.builtin "isinstance") (λxs H Q=>∃x T t b,xs=[x, .ty T]/\TyOf X.K H x t/\PySem.W.kitOne X.K t (.type T)=some b/\Q (.bl b) H):=by
 intro pins s σ H xs us Q I r h
 obtain⟨x,T,t,b,rfl,ht,hk,q⟩:=h
 obtain⟨u,w',rfl,ru,rw'⟩:=zgN r
 cases rw'
 exact zli I ru ht hk λtk=>⟨.bl b,H,I.tok _,rfl,q⟩
theorem zch:bootBuiltins "len"=some (.builtin "len"):=by decide +kernel
theorem zp2:bootBuiltins "all"=some (.builtin "all"):=by decide +kernel
theorem zge:bootBuiltins "isinstance"=some (.builtin "isinstance"):=by decide +kernel
theorem zg8:bootBuiltins "max"=some (.builtin "max"):=by decide +kernel
theorem zen:bootBuiltins "min"=some (.builtin "min"):=by decide +kernel
theorem zcL:bootBuiltins "sorted"=some (.builtin "sorted"):=by decide +kernel
theorem zfK:bootBuiltins "int"=some (.type "int"):=by decide +kernel
theorem zbz:bootBuiltins "tuple"=some (.type "tuple"):=by decide +kernel
theorem znU:bootBuiltins "list"=some (.type "list"):=by decide +kernel
theorem few{α:Type}{xs:List α}(h:Nat.ble xs.length 1000=true):xs.length<=sizeLine:=Nat.le_of_lt (zp (Nat.le_of_ble_eq_true h))
noncomputable def zeH:Expr->Option V
 | .Constant (.str x) _ _=>some (.str x)
 | .Constant (.int i) _ _=>some (.int i)
 | .Constant (.bool b) _ _=>some (.bl b)
 | .Constant .none _ _=>some .non
 |_=>none
theorem zmG{e:Expr}{v:V}(h:zeH e=some v):PE X e (tC v)/\∀es,starEach (e::es) X.env=(false,eval e X.env)::starEach es X.env:=by
 cases e with
 |Constant c j pos=>
  cases c with
  |str x=>cases h;exact⟨zmA,λ_=>rfl⟩
  |int x=>cases h;exact⟨zmt,λ_=>rfl⟩
  |bool x=>cases h;exact⟨zo4,λ_=>rfl⟩
  |none=>cases h;exact⟨zlu,λ_=>rfl⟩
  |_=>cases h
 |_=>cases h
noncomputable def zq0(vs:List V):TA:=λ_ H Q=>Q vs H
theorem zei:∀{es:List Expr} {vs:List V},es.mapM zeH=some vs->PA X es (zq0 vs)
 |[],vs,h=>by
  have e:vs=[]:=by simpa using h.symm
  subst e
  exact zlX
 |e::es,vs,h=>by
  rw[List.mapM_cons] at h
  cases h1:zeH e with
  |none=>rw[h1] at h;cases h
  |some v=>
   rw[h1] at h
   cases h2:es.mapM zeH with
   |none=>rw[h2] at h;cases h
   |some us=>
    rw[h2] at h
    have e1:v::us=vs:=Option.some.inj h
    subst e1
    obtain⟨p,st⟩:=zmG (X:=X) h1
    have q:=zj2 p (zei (es:=es) h2) (st es)
    exact q
noncomputable def zo5(vs:List V):TE:=λ_ H Q=>vs.length<=sizeLine/\∀p,H p=none->Q (.ref p) (upd H p (.lst vs))
theorem zoj(vs:List V){es:List Expr}{pos:Pos}(h:es.mapM zeH=some vs):PE X (.List es pos) (zo5 vs):=zma (zei h)
end
structure Wk(J:It)(n:Nat)(P:Nat->V->Prop)(ok:Hp->Prop):Prop where
 stop:∀i H,ok H->n<=i->J.stop i H
 go:∀i H,ok H->i<n->J.go i H
 yld:∀i H x H',ok H->i<n->J.yld i H x H'->H'=H/\P i x
theorem zdt{K:PySem.W.Frag}{a:Addr}{xs:List V}:Wk (Itl K a) xs.length (λi x=>xs[i]?=some x) (λH=>SqL K H a xs) where
 stop:=λi H h l=>⟨xs,h,l⟩
 go:=λi H h l=>⟨xs,xs[i],h,by simp[l]⟩
 yld:=λi H x H' h l y=>⟨y.1,y.2 xs h⟩
theorem zcj{K:PySem.W.Frag}{a:Addr}{xs:List V}:Wk (Itt K a) xs.length (λi x=>xs[i]?=some x) (λH=>SqT K H a xs) where
 stop:=λi H h l=>⟨xs,h,l⟩
 go:=λi H h l=>⟨xs,xs[i],h,by simp[l]⟩
 yld:=λi H x H' h l y=>⟨y.1,y.2 xs h⟩
theorem zcD{lo:Int}{n:Nat}:Wk (Itr lo n) n (λi x=>x= .int (lo+i)) (λ_=>True) where
 stop:=λi H h l=>l
 go:=λi H h l=>l
 yld:=λi H x H' h l y=>y
theorem zcz{J:It}{n:Nat}{P:Nat->V->Prop}{ok:Hp->Prop}{g:TG}{tc:TT}{te:TE}{src:List (Option Nat)}{σ:St}{H1:Hp}{Q:VK}(wk:Wk J n P ok)(Pv:Addr->Nat->List V->St->Hp->Prop)
 (h0:∀l,H1 l=none->Pv l 0 [] (zgg src σ) (upd H1 l (.lst []))) (hok:∀l i ys σ H,H1 l=none->Pv l i ys σ H->ok H)
 (hs:∀l i x ys σ H,H1 l=none->i<n->P i x->Pv l i ys σ H->H l=some (.lst ys)->g x σ H λσ2 H3=>tc σ2 H3 λb H4=>
   if b=true then te σ2 H4 λy H5=>H5 l=some (.lst ys)/\ys.length<sizeLine/\Pv l (i+1) (ys ++ [y]) σ2 (upd H5 l (.lst (ys ++ [y])))else H4 l=some (.lst ys)/\Pv l (i+1) ys σ2 H4)
 (hd:∀l ys σ H,H1 l=none->Pv l n ys σ H->H l=some (.lst ys)->Q (.ref l) H):
 zep g tc te src σ Q J H1:=by
 intro l hl
 refine⟨λi m ys σ H=>m=n -i/\i<=n/\Pv l i ys σ H,⟨n,by simp,Nat.zero_le _,h0 l hl⟩,?_⟩
 rintro i m ys σ' H' ⟨rfl,hi,p⟩ hl'
 by_cases hlt:i<n
 ·refine .inr ⟨wk.go i H' (hok l i ys σ' H' hl p) hlt,Pv l (i+1),λzs σ2 H2 q=>⟨n -(i+1),by omega,rfl,hlt,q⟩,λx H2 y=>?_⟩
  obtain⟨rfl,px⟩:=wk.yld i H' x H2 (hok l i ys σ' H' hl p) hlt y
  exact hs l i x ys σ' _ hl hlt px p hl'
 ·have e:i=n:=by omega
  subst e
  exact .inl ⟨wk.stop _ _ (hok l _ ys σ' H' hl p) (Nat.le_refl _),hd l ys σ' H' hl p hl'⟩
theorem zaP{J:It}{n:Nat}{P:Nat->V->Prop}{ok:Hp->Prop}{g:TG}{tb:TS}{D:Ends}{σ:St}{H:Hp}(wk:Wk J n P ok)(Pv:Nat->St->Hp->Prop)(h0:Pv 0 σ H)(hok:∀i σ H,Pv i σ H->ok H)
 (hs:∀i x σ H,i<n->P i x->Pv i σ H->g x σ H λσ2 H2=>tb {D with nx:=Pv (i+1),ct:=Pv (i+1),bk:=D.nx} σ2 H2) (hd:∀σ H,Pv n σ H->D.nx σ H):
 zoJ g tb D σ J H:=by
 refine⟨λi m σ H=>m=n -i/\i<=n/\Pv i σ H,⟨n,by simp,Nat.zero_le _,h0⟩,?_⟩
 rintro i m σ H ⟨rfl,hi,p⟩
 by_cases hlt:i<n
 ·refine .inr ⟨wk.go i H (hok i σ H p) hlt,Pv (i+1),λσ' H' q=>⟨n -(i+1),by omega,rfl,hlt,q⟩,λx H' y=>?_⟩
  obtain⟨rfl,px⟩:=wk.yld i H x H' (hok i σ H p) hlt y
  exact hs i x σ _ hlt px p
 ·have e:i=n:=by omega
  subst e
  exact .inl ⟨wk.stop _ _ (hok _ σ H p) (Nat.le_refl _),hd σ H p⟩
structure QE(X:Cx)(e:Expr)(t:TE):Prop where o:PE X e t
structure QT(X:Cx)(e:Expr)(t:TT):Prop where o:PT X e t
structure QW(X:Cx)(e:Expr)(t:TT):Prop where o:PW X e t
structure QA(X:Cx)(es:List Expr)(t:TA):Prop where o:PA X es t
structure QS(X:Cx)(s:Stmt)(t:TS):Prop where o:PS X s t
structure QB(X:Cx)(s:List Stmt)(t:TS):Prop where o:PSs X s t
structure QI(X:Cx)(tg iter:Expr)(t:TI):Prop where o:PI X tg iter t
structure QG(X:Cx)(tg:Expr)(t:TG):Prop where o:PG X tg t
structure QGs(X:Cx)(tg:List Expr)(t:TGs):Prop where o:PGs X tg t
structure QF(X:Cx)(ifs:List Expr)(t:TT):Prop where o:PIf X ifs t
structure QO(X:Cx)(e:Option Expr)(t:TO):Prop where o:PO X e t
structure QPs(X:Cx)(pos:Pos)(keys:List (Option Expr))(values:List Expr)(trs:List (TE×TE)):Prop where o:PPs X pos keys values trs
section
variable{X:Cx}{a b c e o i:Expr}{es:List Expr}{ta tb tc te to ti:TE}{t u:TA}{pos p apos cpos:Pos}{j:Nat}{x:Str}{sa sb:TS}{q q':TT}{rest:List Expr}
theorem qv(i:Nat){x:Str}{pos:Pos}(hN:X.N[i]?=some x:=by rfl)(hv:Vis X.env.scope x:=by exact Or.inl rfl)(hd:(x==("__debug__":Str))=false:=by decide)
 (hcd:(x==("__classdict__":Str))=false:=by decide):QE X (.Name x pos) (zn4 i):=⟨zlD hN hv hd hcd⟩
theorem qc(i:Nat){x:Str}{pos:Pos}(hN:X.N[i]?=some x:=by rfl)(hv:X.env.scope.names.lookup x=some .cell:=by rfl)(hd:(x==("__debug__":Str))=false:=by decide)
 (hcd:(x==("__classdict__":Str))=false:=by decide):QE X (.Name x pos) (zn4 i):=⟨zlD hN (.inr (.inl hv)) hd hcd⟩
theorem zf{k:Int}:QE X (.Constant (.int k) j pos) (tC (.int k)):=⟨zmt⟩
theorem zD{k:Str}:QE X (.Constant (.str k) j pos) (tC (.str k)):=⟨zmA⟩
theorem zeZ{k:Bool}:QE X (.Constant (.bool k) j pos) (tC (.bl k)):=⟨zo4⟩
theorem z9:QE X (.Constant .none j pos) (tC .non):=⟨zlu⟩
theorem zmn{v:V}{u:Value}(hm:X.mg x=some u)(r:RelV v u)(hg:Gl X x:=by rfl)(hd:(x==("__debug__":Str))=false:=by decide):QE X (.Name x pos) (tC v):=⟨znM hg hm r hd⟩
theorem zqT{T:String}(hm:X.mg x=none)(hv:bootBuiltins x=some (.type T))(hg:Gl X x:=by rfl)(hn:x≠"__name__":=by decide)(hd:(x==("__debug__":Str))=false:=by decide):QE X (.Name x pos) (tC (.ty T)):=⟨zoi hg hm hv rfl hn hd⟩
theorem zE{op:Operator}{r:R2}(ho:OpR X (binaryOp op) r)(ha:QE X a ta)(hb:QE X b tb):QE X (.BinOp a op b pos) (tOp r ta tb):=⟨zqo ho ha.o hb.o⟩
theorem zhb{op:UnaryOp}{r:V->Hp->VK->Prop}(ho:UnR X (unaryOp op) r)(ha:QE X a ta):QE X (.UnaryOp op a pos) (tUn r ta):=⟨zqi ho ha.o⟩
theorem zdq{op:CmpOp}{r:R2}(ho:OpR X (compareOp op) r)(ha:QE X a ta)(hb:QE X b tb)(hm:behindInMarks op b=false:=by rfl):QE X (.Compare a [op] [b] pos) (tOp r ta tb):=⟨znX ho ha.o hb.o hm⟩
theorem zA{op:CmpOp}{r:R2}(ho:OpR X (compareOp op) r)(ha:QE X a ta)(hb:QE X b tb)(hm:behindInMarks op b=false:=by rfl):QT X (.Compare a [op] [b] pos) (zoC (tOp r ta tb)):=⟨znp ho ha.o hb.o hm⟩
theorem zqw{op:BoolOp}(h:QE X a ta):QE X (.BoolOp op [a] pos) ta:=⟨zo9 h.o⟩
theorem zqN(ha:QE X a ta)(hb:QE X (.BoolOp .And (b::rest) pos) tb):QE X (.BoolOp .And (a::b::rest) pos) (zo1 ta tb):=⟨zpV ha.o hb.o⟩
theorem zqz(ha:QE X a ta):QE X (.UnaryOp .Not a pos) (zoG ta):=⟨zpZ ha.o⟩
theorem znt(hc:QT X c q)(ha:QE X a ta)(hb:QE X b tb):QE X (.IfExp c a b pos) (tIf q ta tb):=⟨zmO hc.o ha.o hb.o⟩
theorem zms(ha:QT X a q):QW X (.BoolOp .And [a] pos) q:=⟨zoc ha.o⟩
theorem zgr(ha:QT X a q):QW X (.BoolOp .Or [a] pos) q:=⟨zpy ha.o⟩
theorem zoM(ha:QT X a q)(hb:QW X (.BoolOp .And (b::rest) pos) q'):QW X (.BoolOp .And (a::b::rest) pos) (zqB q q'):=⟨zpS ha.o hb.o⟩
theorem zk6(ha:QT X a q)(hb:QW X (.BoolOp .Or (b::rest) pos) q'):QW X (.BoolOp .Or (a::b::rest) pos) (tOr q q'):=⟨zqr ha.o hb.o⟩
theorem t_w(h:QW X a q):QT X a q:=⟨h.o.pt⟩
theorem ziH(ha:QT X a q):QT X (.UnaryOp .Not a pos) (zqC q):=⟨zp4 ha.o⟩
theorem ziQ(h:QE X e te)(he:∀whole,isTrue e X.env whole=(do let v ←whole;standAt e.pos;holding [v] (truthy v)):=by intro _;rfl):QT X e (tB te):=⟨zpt h.o he⟩
theorem znD(h:QE X e te)(he:∀whole,isTrue e X.env whole=(do let v ←whole;standAt e.pos;holding [v] (truthy v)):=by intro _;rfl):QT X e (λσ H Q=>te σ H λx H'=>∃k,zpo X.K x H' k/\Q k H'):=⟨zmf h.o he⟩
theorem zc:QA X [] zl4:=⟨zlX⟩
theorem za(ha:QE X e te)(hr:QA X es t)(hs:starEach (e::es) X.env=(false,eval e X.env)::starEach es X.env:=by rfl):QA X (e::es) (zkd te t):=⟨zj2 ha.o hr.o hs⟩
theorem zx{k:Nat}(h:QA X es t):QE X (.Tuple es k pos) (zqm t):=⟨zpl h.o⟩
theorem zcq(h:QA X es t):QE X (.List es pos) (zpg t):=⟨zma h.o⟩
theorem zeG(vs:List V)(h:es.mapM zeH=some vs):QE X (.List es pos) (zo5 vs):=⟨zoj vs h⟩
theorem zk{CX:CXT}{k:Nat}{f:Addr}{fd:FuncData}{ps:List Str}{sp:Sp}{dvs:List V}{ds:List Value}{E:XK}(F:FnOk X.prog X.w X.K X.mg X.base CX k f fd ps sp)(hr:Room k X.A)(hm:X.mg x=some (.ref f))(hk:PySem.W.keepIn X.K (.ref f)=true)(hb:Binds X.K fd ps ds)(hd:Vals dvs ds)(hx:zce CX X E)
 (ha:QA X (e::es) t) (hg:Gl X x:=by rfl) (hdb:(x==("__debug__":Str))=false:=by decide) (he:starEach (e::es) X.env=(false,eval e X.env)::starEach es X.env:=by rfl) (hpl:(backTo pos (starEach es X.env)).any (·.1)=false:=by rfl):
 QE X (.Call (.Name x p) (e::es) [] pos) (zoO sp dvs E t):=⟨znY F hr hg hm hk hb hd hx ha.o hdb he hpl⟩
theorem zF{id:String}{r:List V->Hp->VK->Prop}(hc:CallR X (.builtin id) r)(hm:X.mg x=none)(hv:bootBuiltins x=some (.builtin id))(ha:QA X (e::es) t)(hg:Gl X x:=by rfl)(hn:x≠"__name__":=by decide)(hdb:(x==("__debug__":Str))=false:=by decide)
 (he:starEach (e::es) X.env=(false,eval e X.env)::starEach es X.env:=by rfl) (hpl:(backTo pos (starEach es X.env)).any (·.1)=false:=by rfl):QE X (.Call (.Name x p) (e::es) [] pos) (tCB r t):=⟨zmD hc hg hm hv ha.o hn hdb he hpl⟩
theorem zah{T:String}{r:List V->Hp->VK->Prop}(hc:CallR X (.type T) r)(hm:X.mg x=none)(hv:bootBuiltins x=some (.type T))(ha:QA X (e::es) t)(hg:Gl X x:=by rfl)(hn:x≠"__name__":=by decide)(hdb:(x==("__debug__":Str))=false:=by decide)
 (he:starEach (e::es) X.env=(false,eval e X.env)::starEach es X.env:=by rfl) (hpl:(backTo pos (starEach es X.env)).any (·.1)=false:=by rfl):QE X (.Call (.Name x p) (e::es) [] pos) (tCB r t):=⟨zk0 hc hg hm hv ha.o hn hdb he hpl⟩
theorem zP{r:R2}(hr:IxR X r)(ha:QE X a ta)(hb:QE X b tb)(hs:zjY b:=by exact λ_ _=>rfl):QE X (.Subscript a b pos) (tOp r ta tb):=⟨zqd hr ha.o hb.o hs⟩
theorem zhz:QO X none zhm:=⟨zor⟩
theorem zhs(h:QE X e te):QO X (some e) (zoX te):=⟨znl h.o⟩
theorem zm7{r:V->Option Int->Option Int->Hp->VK->Prop}{lo hi:Option Expr}{tl th:TO}(hr:SlR X r)(he:QE X e te)(hl:QO X lo tl)(hu:QO X hi th):QE X (.Subscript e (.Slice lo hi none p) pos) (tSl r te tl th):=⟨zlH hr he.o hl.o hu.o⟩
theorem zga{T id:String}{name:Str}{r:V->List V->Hp->VK->Prop}(pa:PlainAttrs T)(slot:Slot T name id)(hty:typeOf (.builtin id)=pure (.type "method_descriptor"))(hm:MtR X id r)(ho:QE X o to)(ha:QA X (e::es) t)
 (hbase:attributeBase o name X.env (eval o X.env)=eval o X.env:=by rfl)
 (hfew:((backTo cpos (starEach (e::es) X.env)).all (λx=>!x.1)&&(backToKw cpos (keywordEach [] X.env)).all (λx=>x.1.isSome)
   &&decide ((e::es).length+([]:List Keyword).length+(if([]:List Keyword).isEmpty then 0 else 1)<30))=true:=by rfl)
 (hline:(apos.endLine==cpos.line)=true:=by rfl) (hs:starEach (e::es) X.env=(false,eval e X.env)::starEach es X.env:=by rfl) (hplain:(backTo cpos (starEach es X.env)).any (·.1)=false:=by rfl):
 QE X (.Call (.Attribute o name apos) (e::es) [] cpos) (tBM X.K T r to t):=⟨zqH pa slot hty hm ho.o ha.o hbase hfew hline hs hplain⟩
theorem zpm:QPs X pos [] [] []:=⟨znI⟩
theorem ziG{ks:List (Option Expr)}{vs:List Expr}{trs:List (TE×TE)}(hk:QE X a ta)(hv:QE X b tb)(hr:QPs X pos ks vs trs):QPs X pos (some a::ks) (b::vs) ((ta,tb)::trs):=⟨zly hk.o hv.o hr.o⟩
theorem zpx{keys:List (Option Expr)}{values:List Expr}{trs:List (TE×TE)}(h:QPs X pos keys values trs)(hall:keys.all (·.isSome)=true:=by rfl)(hl:keys.length=values.length:=by rfl)(h0:keys≠ []:=by exact(λz=>nomatch z))
 (h15:keys.length<=15:=by decide):QE X (.Dict keys values pos) (zoV trs):=⟨zob h.o hall hl h0 h15⟩
theorem zeE{tg:Expr}(h:QE X e te):QI X tg e (zoR X.K te):=⟨znO h.o⟩
theorem zdj{tg:Expr}(h:QE X e te):QI X tg e (zqy X.K te):=⟨zpE h.o⟩
theorem zdc{tg:Expr}(hm:X.mg "range"=none)(ha:QA X [a] t)(hg:Gl X "range":=by rfl)(hs:starEach [a] X.env=[(false,eval a X.env)]:=by rfl):QI X tg (.Call (.Name "range" p) [a] [] pos) (zoS t):=⟨zkX hg hm ha.o hs⟩
theorem zmH{tg:Expr}(hm:X.mg "range"=none)(ha:QA X [a,b] t)(hg:Gl X "range":=by rfl)(hs:starEach [a,b] X.env=[(false,eval a X.env),(false,eval b X.env)]:=by rfl)(hs2:starEach [b] X.env=[(false,eval b X.env)]:=by rfl):QI X tg (.Call (.Name "range" p) [a,b] [] pos) (zoD t):=⟨zk8 hg hm ha.o hs hs2⟩
theorem zr(k:Nat)(hN:X.N.Nodup)(hi:X.N[k]?=some x:=by rfl)(hx:X.env.scope.names.lookup x=some .local:=by rfl):QG X (.Name x pos) (zcU k):=⟨zkl hN hi (.inl hx) (.inr hx)⟩
theorem zbb:QGs X [] zqe:=⟨zny⟩
theorem zy{tg:TG}{tgs:TGs}(h1:QG X e tg)(h2:QGs X es tgs)(hs:(assignEach (e::es) X.env).map (·.2)=assign e X.env::(assignEach es X.env).map (·.2):=by rfl):QGs X (e::es) (zo3 tg tgs):=⟨zlI h1.o h2.o hs⟩
theorem zcV(n:Nat){k:Nat}{tgs:TGs}(hc:X.calm=true)(h:QGs X es tgs)(hn:(assignEach es X.env).length=n:=by rfl)(hst:(assignEach es X.env).findIdx? (·.1)=none:=by rfl):QG X (.Tuple es k pos) (zpO X.K n tgs):=⟨zpU hc h.o hn hst⟩
theorem zgI:QF X [] zof:=⟨znP⟩
theorem ziO(h:QT X c q):QF X [c] q:=⟨zoh h.o⟩
theorem zM:QB X [] zoH:=⟨zok⟩
theorem zg{st:Stmt}{sts:List Stmt}(h1:QS X st sa)(h2:QB X sts sb):QB X (st::sts) (zlj sa sb):=⟨zhY h1.o h2.o⟩
theorem zj{st:Stmt}(h1:QS X st sa):QB X [st] sa:=⟨znB h1.o⟩
theorem zab{A B:List Stmt}(hc:QT X c q)(ha:QB X A sa)(hb:QB X B sb):QS X (.If c A B pos) (zqf q sa sb):=⟨zqL hc.o ha.o hb.o⟩
theorem zz(h:QE X e te):QS X (.Return (some e) pos) (zqF te):=⟨zp1 h.o⟩
theorem zpb:QS X (.Return none pos) zoN:=⟨zos⟩
theorem zcg(he:QE X e te)(hs:swapsWith e none pos.line X.env=pure false:=by rfl):QS X (.Expr e pos) (zoK te):=⟨zoA he.o hs⟩
theorem zlF:QS X (.Continue pos) zoZ:=⟨ziE⟩
theorem zw(k:Nat){pos':Pos}(hN:X.N.Nodup)(he:QE X e te)(hi:X.N[k]?=some x:=by rfl)(hx:X.env.scope.names.lookup x=some .local:=by rfl)(hs:swapsWith e (some (.Name x pos')) pos.line X.env=pure false:=by rfl):
 QS X (.Assign [.Name x pos'] e pos) (zjO te (zcU k)):=⟨zmq hN hi (.inl hx) he.o hs (.inr hx)⟩
theorem zeq(k:Nat){pos':Pos}(hN:X.N.Nodup)(he:QE X e te)(hi:X.N[k]?=some x:=by rfl)(hx:X.env.scope.names.lookup x=some .cell:=by rfl)(hf:X.fn x=true:=by rfl)(hs:swapsWith e (some (.Name x pos')) pos.line X.env=pure false:=by rfl):
 QS X (.Assign [.Name x pos'] e pos) (zjO te (zcU k)):=⟨zmq hN hi (.inr hx) he.o hs (.inl hf)⟩
theorem zb1{tg iter:Expr}{body:List Stmt}{wi:TI}{g:TG}(hp:PassesOwn (model X.prog X.w) X.A X.env X.xe)(hc:X.calm=true)(hi:QI X tg iter wi)(hg:QG X tg g)(hb:QB X body sa)
 (hs:∀x,foldedSetIterable iter X.env x=pure x:=by intro _;rfl):QS X (.For tg iter body [] pos) (zoE wi g sa):=⟨zov hp hc hi.o hg.o hb.o hs⟩
end
section
variable{X:Cx}{elt tg iter:Expr}{ifs:List Expr}{scope osc:Scope}{pos:Pos}{N':List Str}{src:List (Option Nat)}{wi:TI}{g:TG}{tc:TT}{te:TE}
theorem zdR(ok:CompOk X.N osc N' src scope)(hsc:X.env.scope=osc)(hc:X.calm=true)(hi:QI X tg iter wi)
 (hg:∀cl C s₀ H₀ fp,QG (zW X N' scope cl C s₀ H₀ fp) tg g) (ht:∀cl C s₀ H₀ fp,QF (zW X N' scope cl C s₀ H₀ fp) ifs tc) (he:∀cl C s₀ H₀ fp,QE (zW X N' scope cl C s₀ H₀ fp) elt te)
 (hs:∀x,foldedSetIterable iter X.env x=pure x:=by intro _;rfl):QE X (.ListComp elt [⟨tg,iter,ifs,0⟩] scope pos) (zky wi g tc te src):=
 ⟨znr ok hsc hc hi.o (λcl C s₀ H₀ fp=>(hg cl C s₀ H₀ fp).o) (λcl C s₀ H₀ fp=>(ht cl C s₀ H₀ fp).o) (λcl C s₀ H₀ fp=>(he cl C s₀ H₀ fp).o) hs⟩
end
theorem Fun.okQ{P:Program}{w:World}{K:PySem.W.Frag}{mg:Str->Option Value}{base:Heap}{x qual:Str}{st:Stmt}{f:Addr}{fd:FuncData}{N ps:List Str}{k:Nat}{sp:Sp}(F:Fun K x qual st f fd)(S:FnScope N ps (zd st))(len:∀vs H Q E,sp vs H Q E->vs.length=ps.length)
 (hbody:∀(cdv:Value) (A:Around) (outer:List Env) (s:Shared) (H:Hp) (vs:List V) (Q:VK) (E:XK),Room k (A.deeper (envOfC qual (zd st) s.heap.objs.size f cdv))->sp vs H Q E->
   ∃t,QB (zhN CX0 P w K mg base N qual (zd st) f cdv A outer s H E).nox (zo st) t/\t {nx:=λ_ H'=>Q .non H',rt:=Q} (zdD N vs) H):FnOk P w K mg base CX0 (k+1) f fd ps sp:=
 F.ok S len λcdv A outer s H vs Q E hr h=>let ⟨t,a,b⟩:=hbody cdv A outer s H vs Q E hr h;⟨t,a.o,b⟩
theorem zpN{h:Heap}{a:Addr}{m:Str->Option Value}(hn:h.Ns a m):∃o,h.get? a=some o/\∀v,o.data≠ .cell v:=
 let⟨o,es,ep,e,d,_⟩:=hn;⟨o,e,λv z=>by rw[d] at z;cases z⟩
theorem zoq{h h':Heap}{a:Addr}{m:Str->Option Value}{o:Obj}(hn:h.Ns a m)(e:h.get? a=some o)(e':h'.get? a=some o):h'.Ns a m:=by
 obtain⟨o',es,ep,e1,r⟩:=hn
 rw[e] at e1
 cases e1
 exact⟨o,es,ep,e',r⟩
section
variable{X:Cx}{elt tg iter:Expr}{ifs:List Expr}{scope osc:Scope}{pos:Pos}{N':List Str}{src:List (Option Nat)}{wi:TI}{g:TG}{tc:TT}{te:TE}{y:Str}{py spos:Pos}{k:Nat}
theorem zjD(ok:CompOk X.N osc N' src scope)(hsc:X.env.scope=osc)(hc:X.calm=true)(hi:PI X tg iter wi)
 (hg:∀cl C s₀ H₀ fp,PG (zW X N' scope cl C s₀ H₀ fp) tg g) (ht:∀cl C s₀ H₀ fp,PIf (zW X N' scope cl C s₀ H₀ fp) ifs tc) (he:∀cl C s₀ H₀ fp,PE (zW X N' scope cl C s₀ H₀ fp) elt te)
 (hN:X.N.Nodup) (hk:X.N[k]?=some y) (hx:X.env.scope.names.lookup y=some .local) (hsw:swapsWith (.ListComp elt [⟨tg,iter,ifs,0⟩] scope pos) (some (.Name y py)) spos.line X.env=pure true)
 (hs:∀x,foldedSetIterable iter X.env x=pure x:=by intro _;rfl):PS X (.Assign [.Name y py] (.ListComp elt [⟨tg,iter,ifs,0⟩] scope pos) spos) (zjO (zky wi g tc te src) (zcU k)):=by
 intro pins s σ H D I h
 obtain⟨cl,hcl,c1,c2⟩:=zfs (scope:=scope) (env:=X.env) λy hy hyf=>I.ok.has y.1 (by
  have z:=ok.frees y hy hyf
  rw[←hsc] at z
  exact z)
 rw[exec_Assign_Name_used _ _ _ _ hsw]
 refine wpAny_bind (wpAny_standAt (wpAny_bind ?_))
 show wpAny _ X.A (do let _ ←comprehension (.ListComp elt [⟨tg,iter,ifs,0⟩] scope pos) scope X.env _ (newList []) false (eval iter X.env) (some (assign (.Name y py) X.env))) _ _ s
 refine wpAny_bind (wpAny_mono (wpAny_comprehension_free (use:=some (assign (.Name y py) X.env)) (Q:=λ_ s'=>∃σ' H',Inv X pins σ' H' s'/\D.nx σ' H') rfl hs hcl ok.kind ok.loc
  (thn (hi pins s σ H _ I h) λv s1 h1=>thn h1 λitv s2 h2=>?_)) (λ_ s' hq=>wpAny_pure (wpAny_pure hq)) λ_ _ e=>e)
 obtain⟨it,fp,tn,J,H2,e,I2,T,st2,f2,q2⟩:=h2
 subst e
 have hlt2:∀b∈fp,b<s2.heap.objs.size:=λb hb=>by
  obtain⟨o,e,_⟩:=T.obj _ _ st2 b hb
  exact Heap.lt_size e
 refine wpAny_newObj_type ?_
 have hl:H2 s2.heap.objs.size=none:=I2.hok.fresh (Nat.le_refl _)
 have I3:Inv X pins σ (upd H2 s2.heap.objs.size (.lst [])) {s2 with heap:=s2.heap.push {cls:= .type "list",dict:=none,data:= .seq ([]:List Value).toArray}}:=
  I2.laid (t':=s2.toks) (λb u e=>Heap.get?_push_of_some _ e) (Nat.le_refl _) ⟨Nat.zero_le _,[],0, .nil,Heap.get?_push_size _ rfl⟩
 obtain⟨W,⟨m0,w0⟩,turn⟩:=q2 _ hl
 generalize hl2:s2.heap.objs.size=l at *
 generalize hs3:({s2 with heap:=s2.heap.push {cls:= .type "list",dict:=none,data:= .seq ([]:List Value).toArray}}:Shared)=s3 at *
 have f3:∀b∈fp,zex X pins (upd H2 l (.lst [])) b:=λb hb=>⟨by rw[zh (Nat.ne_of_lt (hlt2 b hb))];exact(f2 b hb).1,(f2 b hb).2⟩
 have k3:∀b o,s2.heap.get? b=some o->s3.heap.get? b=some o:=λb o e=>by rw[←hs3];exact Heap.get?_push_of_some _ e
 have hlt3:∀b∈fp,b<s3.heap.objs.size:=λb hb=>by
  obtain⟨o,e,_⟩:=T.obj _ _ st2 b hb
  exact Heap.lt_size (k3 b o e)
 refine wpAny_newFunctionEnv ok.nocell (by intro y hy;simp at hy) (λh₁ hns₁ hsb₁=>?_) ok.kind
 have k4:∀b o,s3.heap.get? b=some o->h₁.get? b=some o:=λb o e=>(hsb₁.2 b (Nat.ne_of_lt (Heap.lt_size e))).trans (Heap.get?_push_of_some _ e)
 have J0:=zfl (tk:=s3.toks+([]:List (Str×Value)).length) I3 f3 hlt3 ok hsc c1 c2 hns₁ k4
 have st4:tn 0 h₁:=T.keep _ _ _ st2 λb hb o e=>k4 b o (k3 b o e)
 generalize hC:s3.heap.objs.size=C at *
 have stat:∀{H':Hp},(∀b∈fp,H' b=none)->∀b∈fp,zex (zW X N' scope cl C s3 (upd H2 l (.lst [])) fp) [] H' b:=λ{H'} hn b hb=>
  ⟨hn b hb,(J0.ok.exf b hb).1,J0.ok.exfs b hb, .inl hb,(J0.ok.exf b hb).2,λp hp=>absurd (show p∈([]:List (Addr×Obj))from hp) (by simp)⟩
 have loop:codeAny (model X.prog X.w) X.A (.compLoop (.ListComp elt [⟨tg,iter,ifs,0⟩] scope pos) 0 (.ref it) (.ref l) (compEnvC scope cl C X.env))
  (compPost (model X.prog X.w) X.A X.xe (some (assign (.Name y py) X.env)) (λ_ s'=>∃σ' H',Inv X pins σ' H' s'/\D.nx σ' H') (.ref l) C) {s3 with heap:=h₁,toks:=s3.toks+([]:List (Str×Value)).length}:=by
  refine zeb (λn s'=>∃i ys σ' H',Inv (zW X N' scope cl C s3 (upd H2 l (.lst [])) fp) [] σ' H' s'/\tn i s'.heap/\(∀b∈fp,H' b=none)/\H' l=some (.lst ys)/\W i n ys σ' H') ?_ m0
   ⟨0,[],_,_,J0,st4,λb hb=>(f3 b hb).1,zb,w0⟩
  rintro n s5 ⟨i,ys,σ5,H5,I5,st5,fr5,hl5,w5⟩
  rcases turn i n ys σ5 H5 w5 hl5 with⟨stop,qn⟩|⟨go,N,hN,step⟩
  ·refine thn (T.done (zW X N' scope cl C s3 (upd H2 l (.lst [])) fp) rfl rfl rfl hc i [] s5 σ5 H5 (λ_ _=>False) I5 (stat fr5) st5 stop) λr s6 ⟨hr,I6⟩=>?_
   subst hr
   obtain⟨m,hn,_⟩:=I6.loc
   have hCs:s3.heap.objs.size<=C:=by rw[←hC];exact Nat.le_refl _
   have I7:Inv X pins σ H5 s6:=zfZ (h':=s6.heap) I3 f3 hCs I6 ⟨rfl,λ_ _=>rfl⟩
   have fC:zex X pins H5 C:=I3.fpOk hCs I6.free
   obtain⟨oC,eC,dC⟩:∃o,s6.heap.get? C=some o/\∀v,o.data≠ .cell v:=by
    obtain⟨o,e,d⟩:=zpN hn
    exact⟨o,e,d⟩
   have I8:=I7.pinned (fp:=[C]) (λb hb=>by rw[List.mem_singleton.mp hb];exact fC) (λb hb=>by rw[List.mem_singleton.mp hb];exact⟨oC,eC,dC⟩)
   refine wpAny_assign_Name (zde (v:= .ref l) I8 hN hk (.inl hx) rfl (λs9 I9=>?_) (.inr hx))
   have p9:=(I9.pin (C,oC) (List.mem_append_right _ (List.mem_append_right _ (zbc (List.mem_singleton.mpr rfl) eC)))).1
   refine⟨m,zoq hn eC p9,λh' hsb=>⟨_,H5,?_,qn⟩⟩
   obtain⟨f0,f1,f2,f3',f4,f5⟩:=fC
   exact I9.unpinned.turned (t':=s9.toks) (λb o hb e=>(hsb.2 b hb).trans e) f0 f1 f3' f4 f5
  ·refine thn (T.item (zW X N' scope cl C s3 (upd H2 l (.lst [])) fp) rfl rfl rfl hc i [] s5 σ5 H5 (λ_ _=>False) I5 (stat fr5) st5 go) λr s6 ⟨u,hr,h6⟩=>?_
   subst hr
   refine thn h6 λ_ s7 ⟨x,H7,I7,r7,y7,st7,fr7⟩=>?_
   have I7':=I7.pinned (stat fr7) (T.obj _ _ st7)
   refine thn (hg cl C s3 _ fp _ s7 σ5 H7 x u _ I7' r7 (step x H7 y7)) λ_ s8 ⟨σ8,H8,I8,q8⟩=>?_
   refine thn (ht cl C s3 _ fp _ s8 σ8 H8 _ I8 q8) λb s9 ⟨H9,I9,q9⟩=>?_
   have back:∀{s':Shared} {H':Hp},Inv (zW X N' scope cl C s3 (upd H2 l (.lst [])) fp) ([]++zeC fp s7.heap) σ8 H' s'->tn (i+1) s'.heap/\∀b∈fp,H' b=none:=λ{s' H'} I'=>by
    refine⟨T.keep _ _ _ st7 λb hb o e=>(I'.pin (b,o) (List.mem_append_right _ (List.mem_append_right _ (zbc hb e)))).1,λb hb=>?_⟩
    obtain⟨o,e,d⟩:=T.obj _ _ st7 b hb
    exact(I'.pin (b,o) (List.mem_append_right _ (List.mem_append_right _ (zbc hb e)))).2.1
   cases b with
   |false=>
    obtain⟨hl9,n9⟩:=q9
    obtain⟨m',hm,w9⟩:=hN _ _ _ n9
    obtain⟨t9,fr9⟩:=back I9
    exact⟨m',hm,i+1,ys,σ8,H9,I9.unpinned,t9,fr9,hl9,w9⟩
   |true=>
    refine thn (he cl C s3 _ fp _ s9 σ8 H9 _ I9 q9) λxv s10 ⟨y,H10,I10,r10,hl10,hz,n10⟩=>?_
    obtain⟨m',hm,w10⟩:=hN _ _ _ n10
    refine thn (zaZ (X:=zW X N' scope cl C s3 (upd H2 l (.lst [])) fp) _ s10 σ8 H10 (.ref l) [y] (.ref l) [xv] (λv H'=>H'=upd H10 l (.lst (ys ++ [y]))) I10 rfl (.cons r10 .nil) ⟨l,ys,y,rfl,rfl,hl10,hz,rfl⟩) λ_ s11 ⟨_,H11,I11,_,e11⟩=>?_
    subst e11
    obtain⟨t11,fr11⟩:=back I11
    exact⟨m',hm,i+1,ys ++ [y],σ8,_,I11.unpinned,t11,fr11,zb,w10⟩
 exact codeAny_compStart_list loop (T.self _ 0 _ _ _ st4 loop)
theorem zdw(k:Nat)(ok:CompOk X.N osc N' src scope)(hsc:X.env.scope=osc)(hc:X.calm=true)(hN:X.N.Nodup)(hi:QI X tg iter wi)
 (hg:∀cl C s₀ H₀ fp,QG (zW X N' scope cl C s₀ H₀ fp) tg g) (ht:∀cl C s₀ H₀ fp,QF (zW X N' scope cl C s₀ H₀ fp) ifs tc) (he:∀cl C s₀ H₀ fp,QE (zW X N' scope cl C s₀ H₀ fp) elt te)
 (hk:X.N[k]?=some y:=by rfl) (hx:X.env.scope.names.lookup y=some .local:=by rfl) (hsw:swapsWith (.ListComp elt [⟨tg,iter,ifs,0⟩] scope pos) (some (.Name y py)) spos.line X.env=pure true:=by rfl)
 (hs:∀x,foldedSetIterable iter X.env x=pure x:=by intro _;rfl):QS X (.Assign [.Name y py] (.ListComp elt [⟨tg,iter,ifs,0⟩] scope pos) spos) (zjO (zky wi g tc te src) (zcU k)):=
 ⟨zjD ok hsc hc hi.o (λcl C s₀ H₀ fp=>(hg cl C s₀ H₀ fp).o) (λcl C s₀ H₀ fp=>(ht cl C s₀ H₀ fp).o) (λcl C s₀ H₀ fp=>(he cl C s₀ H₀ fp).o) hN hk hx hsw hs⟩
end
section
variable{X:Cx}{e o i tg:Expr}{te to ti:TE}{g:TG}{pos:Pos}{x:Str}{t:znm}
theorem zcw(he:QE X e te)(hg:QG X tg g)(hs:swapsWithSole [tg] e pos.line X.env=pure false:=by rfl)(hw:swappedStores [tg] e X.env=pure none:=by rfl)
 (h1:(assignEach [tg] X.env).map (·.2)=[assign tg X.env]:=by rfl):QS X (.Assign [tg] e pos) (zjO te g):=⟨zpq he.o hg.o hs hw h1⟩
theorem zhR(ho:QE X o to)(hi:QE X i ti)(hs:zpQ X t)(ha:∀v,assign (.Subscript o i pos) X.env v=(do
 let ov ←holding [v] (eval o X.env)
 let iv ←holding [v,ov] (eval i X.env)
 standAt pos
 holding [v,ov,iv] (setItem ov iv v)
 release [v,ov,iv] []):=by intro _;rfl):QG X (.Subscript o i pos) (zqj to ti t):=⟨zpB ho.o hi.o hs ha⟩
theorem zkh(k:Nat)(hN:X.N.Nodup)(hi:X.N[k]?=some x:=by rfl)(hx:X.env.scope.names.lookup x=some .cell:=by rfl)(hf:X.fn x=true:=by rfl):QG X (.Name x pos) (zcU k):=⟨zkl hN hi (.inr hx) (.inl hf)⟩
end
noncomputable def zpT(t u:TS):TS:=λD σ H=>∃R:St->Hp->Prop,t {D with nx:=R} σ H/\∀σ' H',R σ' H'->u D σ' H'
theorem zdp{X:Cx}{st:Stmt}{sts:List Stmt}{sa sb:TS}(h1:QS X st sa)(h2:QB X sts sb):QB X (st::sts) (zpT sa sb):=by
 refine⟨λpins s σ H D I h=>?_⟩
 obtain⟨R,ha,hb⟩:=h
 have h3:PSs X sts (λD' σ' H'=>D'=D/\R σ' H'):=λpins s σ' H' D' I h=>by
  obtain⟨rfl,hR⟩:=h
  exact h2.o pins s σ' H' D' I (hb σ' H' hR)
 have e:(λσ' H'=>D=D/\R σ' H')=R:=by
  funext σ' H'
  simp
 refine zhY h1.o h3 pins s σ H D I ?_
 show sa {D with nx:=λσ' H'=>D=D/\R σ' H'} σ H
 rw[e]
 exact ha
section
variable{X:Cx}
theorem zmK(z:Str):zfp z 1=z:=by
 unfold zfp
 simp
theorem ziX:OpR X (binaryOp .Mult) (λx y H Q=>∃z n,x= .str z/\y= .int n/\1<=n/\n<=1000/\0<z.length/\z.length<=1000/\Q (.str (zfp z n.toNat)) H):=by
 intro pins s σ H x y v u Q I rx ry h
 obtain⟨z,n,rfl,rfl,h1,h2,h3,h4,q⟩:=h
 by_cases h:1<n
 ·exact zi1 pins s σ H _ _ v u Q I rx ry ⟨z,n,rfl,rfl,h,h2,h3,h4,q⟩
 ·have e:n=1:=by omega
  subst e
  obtain⟨t,rfl⟩:=rx
  obtain⟨t',rfl⟩:=ry
  refine PySem.P.mul_str (by decide) (λ_ z=>by simp at z) (λ_ z=>by simp at z) ?_
  simp only[show¬(1:Int)<1 by decide,if_false,beq_self_eq_true,Bool.true_or,if_true]
  refine⟨.str _,H,I,⟨_,rfl⟩,?_⟩
  have e:zfp z (1:Int).toNat=z:=zmK z
  rw[e] at q
  exact q
end
section
variable{X:Cx}{K:PySem.W.Frag}
theorem ze0(h:X.K=K):IxR X (zpp K):=by subst h;exact ix_tup
theorem zf7(h:X.K=K):OpR X (compareOp .NotIn) (rIn K true):=by subst h;exact zd3
theorem zam:CallR X (.builtin "len") (λxs H Q=>(∃p ys,xs=[.ref p]/\(SqL X.K H p ys\/SqT X.K H p ys)/\Q (.int ys.length) H)\/∃z,xs=[.str z]/\z.length<=sizeLine/\Q (.int z.length) H):=call_len_seq.or zhq
theorem zjh(n:Nat){k:Nat}{es:List Expr}{pos:Pos}{tgs:TGs}(hK:X.K=K)(hc:X.calm=true)(h:QGs X es tgs)(hn:(assignEach es X.env).length=n:=by rfl)(hst:(assignEach es X.env).findIdx? (·.1)=none:=by rfl):QG X (.Tuple es k pos) (zpO K n tgs):=by subst hK;exact zcV n hc h hn hst
end
end L2
namespace RW
open PySem PySem.Spec PyProof.Rows L2
noncomputable def zj4(c:Nat):Bool:=decide (97<=c)&&decide (c<=122)
noncomputable def takenL:List Str:=["if","and","not","never"]
noncomputable def zi(x:Str):Bool:=decide (1<=x.length)&&decide (x.length<=8)&&x.cps.toList.all zj4&&!(takenL.any λy=>decide (y=x))
def Hand(H:Hp)(a:Addr)(n:Int):Prop:=∃x m t:Int,H a=some (.lst [.int x, .int m, .int t])/\0<=m/\m<2^63/\0<=t/\t<=n
def Keep(a:Addr)(H H':Hp):Prop:=∀b o,b≠a->H b=some o->H' b=some o
theorem Keep.refl(a:Addr)(H:Hp):Keep a H H:=λ_ _ _ h=>h
theorem Keep.trans{a:Addr}{H H1 H2:Hp}(x:Keep a H H1)(y:Keep a H1 H2):Keep a H H2:=λb o n h=>y b o n (x b o n h)
theorem Keep.upd(a:Addr)(H:Hp)(o:HO):Keep a H (upd H a o):=λb u n h=>by rw[zh n];exact h
theorem Keep.new{a p:Addr}{H:Hp}{o:HO}(h:H p=none):Keep a H (L2.upd H p o):=λb u n e=>by rw[zh (ze e h)];exact e
theorem Keep.of{a:Addr}{H H':Hp}(h:Same H H'):Keep a H H':=λb o _ e=>h b o e
theorem Hand.ne{H:Hp}{a p:Addr}{n:Int}(h:Hand H a n)(e:H p=none):p≠a:=by
 obtain⟨x,m,t,h,_⟩:=h
 exact λz=>by rw[z,h] at e;cases e
theorem Hand.new{H:Hp}{a p:Addr}{n:Int}{o:HO}(h:Hand H a n)(e:H p=none):Hand (upd H p o) a n:=by
 have ne:=h.ne e
 obtain⟨x,m,t,h,r⟩:=h
 exact⟨x,m,t,by rw[zh (Ne.symm ne)];exact h,r⟩
theorem Hand.same{H H':Hp}{a:Addr}{n:Int}(h:Hand H a n)(s:Same H H'):Hand H' a n:=by
 obtain⟨x,m,t,h,r⟩:=h
 exact⟨x,m,t,s _ _ h,r⟩
theorem Hand.mono{H:Hp}{a:Addr}{n n':Int}(h:Hand H a n)(l:n<=n'):Hand H a n':=by
 obtain⟨x,m,t,h,h1,h2,h3,h4⟩:=h
 exact⟨x,m,t,h,h1,h2,h3,by omega⟩
theorem Keep.sqL{K:PySem.W.Frag}{a b:Addr}{H H':Hp}{xs:List V}(k:Keep a H H')(n:b≠a)(h:SqL K H b xs):SqL K H' b xs:=by
 rcases h with(h|⟨o,h⟩)|h
 ·exact .inl (.inl (k _ _ n h))
 ·exact .inl (.inr ⟨o,k _ _ n h⟩)
 ·exact .inr h
theorem Hand.updNe{H:Hp}{a p:Addr}{n:Int}{o:HO}(h:Hand H a n)(e:p≠a):Hand (upd H p o) a n:=by
 obtain⟨x,m,t,h,r⟩:=h
 exact⟨x,m,t,by rw[zh (Ne.symm e)];exact h,r⟩
theorem Keep.updNew{a p:Addr}{H H':Hp}{o:HO}(k:Keep a H H')(e:H p=none):Keep a H (L2.upd H' p o):=λb u n h=>by
 rw[zh (ze h e)]
 exact k b u n h
noncomputable def lettersS:Str:="abcdefghijklmnopqrstuvwxyz"
noncomputable def one(c:Nat):Str:=⟨#[c]⟩
theorem Same.new{H:Hp}{p:Addr}{o:HO}(h:H p=none):Same H (L2.upd H p o):=λb u e=>by rw[zh (ze e h)];exact e
structure At(K:PySem.W.Frag)(mg:Str->Option Value)(x:Str)(st:Stmt)(ps:List Str)(f:Addr)(fd:FuncData):Prop where
 fn:Fun K x x st f fd
 b:Binds K fd ps []
 mg:mg x=some (.ref f)
 kp:PySem.W.keepIn K (.ref f)=true
theorem zdA{α:Type}{xs:List α}{d:Int}(h0:0<=d)(h1:d<xs.length):∃v,atI xs d=some v/\v∈xs:=by
 obtain⟨k,rfl⟩:∃k:Nat,d=(k:Int):=⟨d.toNat,by omega⟩
 have hk:k<xs.length:=by omega
 exact⟨xs[k],zI (by simp[hk]),List.getElem_mem hk⟩
theorem at0{α:Type}{x:α}{xs:List α}:atI (x::xs) 0=some x:=zI (j:=0) rfl
theorem at1{α:Type}{x y:α}{xs:List α}:atI (x::y::xs) 1=some y:=zI (j:=1) rfl
inductive D where
 |non|bl (b:Bool)|int (i:Int)|str (x:Str)|tup (ds:List D)|oth
inductive Rep(H:Hp):V->D->Prop where
 |non:Rep H .non .non
 |bl (b:Bool):Rep H (.bl b) (.bl b)
 |int (i:Int):Rep H (.int i) (.int i)
 |str (x:Str) (h:x.length<=1000):Rep H (.str x) (.str x)
 |tup {p:Addr} {vs:List V} {ds:List D} (h:H p=some (.tup vs)) (l:vs.length=ds.length) (b:ds.length<=1000) (r:∀(i:Nat) (v:V) (d:D),vs[i]?=some v->ds[i]?=some d->Rep H v d):Rep H (.ref p) (.tup ds)
 |lst {p:Addr} {vs:List V} (h:H p=some (.lst vs)):Rep H (.ref p) .oth
 |dK {p:Addr} {kvs:List (Key×V)} (h:H p=some (.dK kvs)):Rep H (.ref p) .oth
structure Mono(H H':Hp):Prop where
 tup:∀p xs,H p=some (.tup xs)->H' p=some (.tup xs)
 lst:∀p xs,H p=some (.lst xs)->∃ys,H' p=some (.lst ys)
 dK:∀p xs,H p=some (.dK xs)->∃ys,H' p=some (.dK ys)
theorem Mono.trans{H H1 H2:Hp}(a:Mono H H1)(b:Mono H1 H2):Mono H H2:=⟨λp xs h=>b.tup p xs (a.tup p xs h),λp xs h=>let ⟨ys,e⟩:=a.lst p xs h;b.lst p ys e,λp xs h=>let ⟨ys,e⟩:=a.dK p xs h;b.dK p ys e⟩
theorem Mono.of{H H':Hp}(s:Same H H'):Mono H H':=⟨λp xs h=>s _ _ h,λp xs h=>⟨xs,s _ _ h⟩,λp xs h=>⟨xs,s _ _ h⟩⟩
theorem Mono.new{H:Hp}{p:Addr}{o:HO}(h:H p=none):Mono H (upd H p o):= .of (Same.new h)
theorem Mono.lset{H:Hp}{p:Addr}{xs ys:List V}(h:H p=some (.lst xs)):Mono H (upd H p (.lst ys)):=by
 refine⟨λq zs e=>?_,λq zs e=>?_,λq zs e=>?_⟩
 ·by_cases hq:q=p
  ·subst hq;rw[h] at e;cases e
  ·rw[zh hq];exact e
 ·by_cases hq:q=p
  ·subst hq;exact⟨ys,zb⟩
  ·rw[zh hq];exact⟨zs,e⟩
 ·by_cases hq:q=p
  ·subst hq;rw[h] at e;cases e
  ·rw[zh hq];exact⟨zs,e⟩
theorem Mono.keep{H H':Hp}{a:Addr}{n m:Int}(k:Keep a H H')(h:Hand H a n)(h':Hand H' a m):Mono H H':=by
 obtain⟨x,y,z,h,_⟩:=h
 obtain⟨x',y',z',h',_⟩:=h'
 refine⟨λq zs e=>?_,λq zs e=>?_,λq zs e=>?_⟩
 ·exact k q _ (λhq=>by subst hq;rw[h] at e;cases e) e
 ·by_cases hq:q=a
  ·subst hq;exact⟨_,h'⟩
  ·exact ⟨zs,k q _ hq e⟩
 ·exact ⟨zs,k q _ (λhq=>by subst hq;rw[h] at e;cases e) e⟩
theorem Rep.mono{H H':Hp}{v:V}{d:D}(h:Rep H v d)(m:Mono H H'):Rep H' v d:=by
 induction h with
 |non=>exact .non
 |bl b=>exact .bl b
 |int i=>exact .int i
 |str x h=>exact .str x h
 |tup h l b _ ih=>exact .tup (m.tup _ _ h) l b ih
 |lst h=>obtain ⟨ys,e⟩:=m.lst _ _ h;exact .lst e
 |dK h=>obtain ⟨ys,e⟩:=m.dK _ _ h;exact .dK e
theorem Rep.same{H H':Hp}{v:V}{d:D}(h:Rep H v d)(s:Same H H'):Rep H' v d:=h.mono (.of s)
def RepL(H:Hp)(vs:List V)(ds:List D):Prop:=vs.length=ds.length/\∀(i:Nat) (v:V) (d:D),vs[i]?=some v->ds[i]?=some d->Rep H v d
theorem RepL.nil{H:Hp}:RepL H [] []:=⟨rfl,λi v d e=>by simp at e⟩
theorem RepL.cons{H:Hp}{v:V}{d:D}{vs:List V}{ds:List D}(h:Rep H v d)(r:RepL H vs ds):RepL H (v::vs) (d::ds):=by
 refine⟨by simp[r.1],λi w e h1 h2=>?_⟩
 cases i with
 |zero=>simp at h1 h2;subst h1;subst h2;exact h
 |succ i=>exact r.2 i w e (by simpa using h1) (by simpa using h2)
theorem RepL.head{H:Hp}{v:V}{d:D}{vs:List V}{ds:List D}(r:RepL H (v::vs) (d::ds)):Rep H v d/\RepL H vs ds:=
 ⟨r.2 0 v d rfl rfl,by have:=r.1;simp at this;exact this,λi w e h1 h2=>r.2 (i+1) w e (by simpa using h1) (by simpa using h2)⟩
theorem RepL.mono{H H':Hp}{vs:List V}{ds:List D}(r:RepL H vs ds)(m:Mono H H'):RepL H' vs ds:=⟨r.1,λi v d h1 h2=>(r.2 i v d h1 h2).mono m⟩
theorem RepL.append{H:Hp}{vs us:List V}{ds es:List D}(r:RepL H vs ds)(q:RepL H us es):RepL H (vs ++us) (ds ++es):=by
 refine⟨by rw[List.length_append,List.length_append,r.1,q.1],λi v d h1 h2=>?_⟩
 by_cases hi:i<vs.length
 ·rw[List.getElem?_append_left hi] at h1
  rw[List.getElem?_append_left (by rw[←r.1];exact hi)] at h2
  exact r.2 i v d h1 h2
 ·rw[List.getElem?_append_right (by omega)] at h1
  rw[List.getElem?_append_right (by rw[←r.1];omega),←r.1] at h2
  exact q.2 _ v d h1 h2
theorem RepL.get{H:Hp}{vs:List V}{ds:List D}{i:Nat}{v:V}(r:RepL H vs ds)(h:vs[i]?=some v):∃d,ds[i]?=some d/\Rep H v d:=by
 have hi:i<vs.length:=by
  rcases Nat.lt_or_ge i vs.length with q|q
  ·exact q
  ·rw[List.getElem?_eq_none q] at h;cases h
 have hd:i<ds.length:=by rw[←r.1];exact hi
 exact⟨ds[i],by simp[hd],r.2 i v _ h (by simp[hd])⟩
theorem Rep.mkL{H:Hp}{p:Addr}{vs:List V}{ds:List D}(h:H p=some (.tup vs))(b:ds.length<=1000)(r:RepL H vs ds):Rep H (.ref p) (.tup ds):= .tup h r.1 b r.2
theorem Rep.ofT{H:Hp}{v:V}{ds:List D}(h:Rep H v (.tup ds)):∃p vs,v= .ref p/\H p=some (.tup vs)/\RepL H vs ds/\ds.length<=1000:=by
 cases h with
 |tup h l b r=>exact ⟨_,_,rfl,h,⟨l,r⟩,b⟩
theorem Rep.of2{H:Hp}{v:V}{d e:D}(h:Rep H v (.tup [d,e])):∃p x y,v= .ref p/\H p=some (.tup [x,y])/\Rep H x d/\Rep H y e:=by
 obtain⟨p,vs,rfl,hp,r,_⟩:=h.ofT
 match vs,r with
 |[x,y],r=>exact ⟨p,x,y,rfl,hp,r.head.1,r.head.2.head.1⟩
 |[],r=>exact absurd r.1 (by simp)
 |[_],r=>exact absurd r.1 (by simp)
 |_::_::_::_,r=>exact absurd r.1 (by simp)
theorem Rep.mk1{H:Hp}{p:Addr}{x:V}{d:D}(h:H p=some (.tup [x]))(a:Rep H x d):Rep H (.ref p) (.tup [d]):= .mkL h (by simp) (.cons a .nil)
theorem Rep.mk2{H:Hp}{p:Addr}{x y:V}{d e:D}(h:H p=some (.tup [x,y]))(a:Rep H x d)(b:Rep H y e):Rep H (.ref p) (.tup [d,e]):= .mkL h (by simp) (.cons a (.cons b .nil))
noncomputable def isTupB:D->Bool| .tup _=>true|_=>false
noncomputable def isStrB:D->Bool| .str _=>true|_=>false
noncomputable def isNumB:D->Bool| .int _=>true|_=>false
noncomputable def zfG(d:D)(lo hi:Int):Bool:=match d with| .int i=>decide (lo<=i)&&decide (i<=hi)|_=>false
noncomputable def headStrB:D->Bool| .tup (.str _::_)=>true|_=>false
noncomputable def zdy:D->Bool| .str x=>zi x|_=>false
noncomputable def namingL:List Str:=["by","from","to","mark"]
noncomputable def zG:D->Bool
 | .tup [.str w,x]=>if w="long"then zfG x 0 99 else(namingL.any λy=>decide (y=w))&&zdy x
 |_=>false
noncomputable def zL(d:D):Bool:=match d with
 | .tup [.str w,x]=>if w="not"then zG x else zG d
 |_=>false
noncomputable def zaG:D->Bool| .tup ds=>decide (ds.length<=4)&&ds.all zL|_=>false
noncomputable def zeN:D->Bool| .tup [.str w,_]=>decide (w="to")|_=>false
noncomputable def zd2:D->Bool| .tup [.str w,x]=>if w="not"then zeN x else decide (w="to")|_=>false
noncomputable def zbU:D->Bool| .non=>true|d=>zfG d (-999) 999
noncomputable def zd8:D->Bool| .tup ds=>ds.any zd2|_=>false
noncomputable def zS:D->Bool| .tup [c,x]=>zaG c&&zbU x&&!zd8 c|_=>false
noncomputable def zcf:D->Bool
 | .tup [.str w]=>decide (w="keep")
 | .tup [.str w,x]=>(decide (w="put")||decide (w="strike"))&&zdy x
 |_=>false
noncomputable def zb6:D->Bool| .tup [c,x]=>zaG c&&zcf x|_=>false
theorem zef{w:Str}{x:D}:zG (.tup [.str w,x])=if w="long"then zfG x 0 99 else(namingL.any λy=>decide (y=w))&&zdy x:=rfl
theorem zd9{w:Str}{x:D}:zL (.tup [.str w,x])=if w="not"then zG x else zG (.tup [.str w,x]):=rfl
theorem zhW{ds:List D}:zaG (.tup ds)=(decide (ds.length<=4)&&ds.all zL):=rfl
theorem zk1{c x:D}:zS (.tup [c,x])=(zaG c&&zbU x&&!zd8 c):=rfl
theorem zn9{c x:D}:zb6 (.tup [c,x])=(zaG c&&zcf x):=rfl
theorem zpe{w:Str}{x:D}:zcf (.tup [.str w,x])=((decide (w="put")||decide (w="strike"))&&zdy x):=rfl
theorem zio{x:Str}:zdy (.str x)=zi x:=rfl
theorem zbD{x y:Str}:decide (V.str x=V.str y)=decide (x=y):=by
 by_cases h:x=y
 ·subst h;rw[decide_eq_true rfl,decide_eq_true rfl]
 ·rw[decide_eq_false h,decide_eq_false λz=>h (V.str.inj z)]
theorem zcn(d:D)(h:zG d=true):∃x e,d= .tup [.str x,e]:=by
 unfold zG at h
 split at h
 ·exact ⟨_,_,rfl⟩
 ·cases h
theorem zgx(d:D)(h:zL d=true):∃x e,d= .tup [.str x,e]:=by
 unfold zL at h
 split at h
 ·exact ⟨_,_,rfl⟩
 ·cases h
theorem zdv{e:D}:zG (.tup [.str "not",e])=false:=by
 have h1:¬("not":Str)="long":=by decide +kernel
 have h2:(namingL.any λy=>decide (y=("not":Str)))=false:=by decide +kernel
 rw[zef,if_neg h1,h2];rfl
theorem zhQ{xs:List V}{n:Nat}:zcp xs none (some (n:Int))=xs.take n:=by
 unfold zcp
 have e1:HT.sIx xs.length 0 none=0:=rfl
 have e2:HT.sIx xs.length xs.length (some (n:Int))=min n xs.length:=by
  unfold HT.sIx
  have h:¬(n:Int)<0:=by omega
  simp only[if_neg h,Int.toNat_natCast]
 rw[e1,e2,List.drop_zero,Nat.sub_zero,List.take_eq_take_iff]
 omega
theorem zi9{N:Nat}{a:Addr}{m c:Int}{Pd:Nat->D->Prop}{H:Hp}{te:TE}{src:List (Option Nat)}{σ σr:L2.St}{Q:VK}(hs:zgg src σ=none::σr)(hH:Hand H a m)(hN:N<=900)(hc:0<=c)
 (he:∀(i:Nat) (H1:Hp) (Q1:VK),i<N->Hand H1 a (m+c*i)->Keep a H H1->(∀v d H2,Rep H2 v d->Pd i d->Hand H2 a (m+c*i+c)->Keep a H1 H2->Q1 v H2)->te (some (.int (i:Int))::σr) H1 Q1)
 (q:∀l vs ds H',H l=none->H' l=some (.lst vs)->RepL H' vs ds->ds.length=N->(∀i d,ds[i]?=some d->Pd i d)->Hand H' a (m+c*N)->Keep a H H'->Q (.ref l) H'):zep (zcU 0) zof te src σ Q (Itr 0 N) H:=by
 refine zcz zcD (λl i ys σ' H'=>(∃o,σ'=o::σr)/\(∃ds:List D,RepL H' ys ds/\ds.length=i/\∀j d,ds[j]?=some d->Pd j d)/\Hand H' a (m+c*i)/\Keep a H H') ?_ (λ_ _ _ _ _ _ _=>trivial) ?_ ?_
 ·exact λl hl=>⟨⟨_,hs⟩,⟨[],RepL.nil,rfl,λj d z=>by simp at z⟩,(hH.new hl).mono (by simp),Keep.new hl⟩
 ·rintro l i y ys σ' H1 hl hi rfl ⟨⟨o,rfl⟩,⟨ds,hr,hl2,hp⟩,hH1,k1⟩ hl'
  have nl:=hH.ne hl
  rw[Int.zero_add]
  refine he i H1 _ hi hH1 k1 λv d H2 rv pd hH2 k2=>?_
  have hl2':H2 l=some (.lst ys):=k2 _ _ nl hl'
  have m2:Mono H1 H2:=Mono.keep k2 hH1 hH2
  have m3:Mono H2 (upd H2 l (.lst (ys ++ [v]))):=Mono.lset hl2'
  refine⟨hl2',?_,⟨_,rfl⟩,⟨ds ++ [d],((hr.mono m2).append (.cons rv .nil)).mono m3,?_,?_⟩,(hH2.updNe nl).mono ?_,(k1.trans k2).updNew hl⟩
  ·have:=hr.1
   exact zp (by omega)
  ·rw[List.length_append,hl2];rfl
  ·intro j e he
   by_cases hj:j<ds.length
   ·rw[List.getElem?_append_left hj] at he
    exact hp j e he
   ·rw[List.getElem?_append_right (by omega)] at he
    have hj2:j=ds.length:=by
     rcases Nat.lt_or_ge ds.length j with z|z
     ·rw[List.getElem?_eq_none (by simp;omega)] at he;cases he
     ·omega
    subst hj2
    simp at he
    subst he
    rw[hl2];exact pd
  ·rw[show((i+1:Nat):Int)=(i:Int)+1 by omega,Int.mul_add,Int.mul_one]
   omega
 ·rintro l ys σ' H1 hl ⟨⟨o,rfl⟩,⟨ds,hr,hl2,hp⟩,hH1,k1⟩ hl'
  exact q l ys ds H1 hl hl' hr hl2 hp hH1 k1
end RW
namespace L2
open PySem PySem.Spec PyProof.Rows
open Sem (wp)
open MeetsSeq MeetsSeq2 MeetsSeq3 Builtin
end L2
namespace L2
open PySem PySem.Spec PyProof.Rows
theorem zeD{X:Cx}{pos:Pos}:QE X (.Dict [] [] pos) zlJ:=⟨zlL⟩
end L2
namespace RW
open PySem PySem.Spec PyProof.Rows L2
def Dsp(te:TE)(σ:L2.St)(H:Hp)(d:D):Prop:=∀(H1:Hp) (Q:VK),Same H H1->(∀v H2,Same H1 H2->Rep H2 v d->Q v H2)->te σ H1 Q
def znQ(ta:TA)(σ:L2.St)(H:Hp)(ds:List D):Prop:=∀(H1:Hp) (Q:List V->Hp->Prop),Same H H1->(∀vs H2,Same H1 H2->RepL H2 vs ds->Q vs H2)->ta σ H1 Q
def zqa(te:TE)(σ:L2.St)(H:Hp)(ds:List D):Prop:=∀(H1:Hp) (Q:VK),Same H H1->(∀l vs H2,Same H1 H2->H2 l=some (.lst vs)->RepL H2 vs ds->Q (.ref l) H2)->te σ H1 Q
section
variable{te tf:TE}{ta:TA}{σ:L2.St}{H:Hp}{d:D}{ds es:List D}{K:PySem.W.Frag}
theorem zno{i:Int}:Dsp (tC (.int i)) σ H (.int i):=λH1 Q s q=>q _ H1 (Same.refl _) (.int i)
theorem znf:Dsp (tC .non) σ H .non:=λH1 Q s q=>q _ H1 (Same.refl _) .non
theorem zog{i:Int}:Dsp (tUn (rU λi=> .int (-i)) (tC (.int i))) σ H (.int (-i)):=λH1 Q s q=>⟨i,rfl,q _ H1 (Same.refl _) (.int (-i))⟩
theorem znW{i:Nat}{v:V}(h:σ[i]?=some (some v))(r:Rep H v d):Dsp (zn4 i) σ H d:=λH1 Q s q=>⟨v,h,q v H1 (Same.refl _) (r.same s)⟩
theorem zm3:znQ zl4 σ H []:=λH1 Q s q=>q [] H1 (Same.refl _) RepL.nil
theorem zkE(h:Dsp te σ H d)(r:znQ ta σ H ds):znQ (zkd te ta) σ H (d::ds):=λH1 Q s q=>
 h H1 _ s λv H2 s2 rv=>r H2 _ (s.trans s2) λvs H3 s3 rs=>q (v::vs) H3 (s2.trans s3) (.cons (rv.same s3) rs)
theorem zmF(h:znQ ta σ H ds)(hl:ds.length<=1000):zqa (zpg ta) σ H ds:=λH1 Q s q=>
 h H1 _ s λvs H2 s2 rs=>⟨Nat.le_of_lt (zp (by rw[rs.1];exact hl)),λp hp=>q p vs _ (s2.trans (Same.new hp)) zb (rs.mono (.new hp))⟩
end
section
variable{te:TE}{tr:TA}{tb:TS}{De:Ends}{σ:L2.St}{H:Hp}{ds:List D}{d:D}{k:Nat}
theorem zp7{Q:List V->Hp->Prop}(h:zqa te σ H ds)(q:∀l vs H2,Same H H2->H2 l=some (.lst vs)->RepL H2 vs ds->tr σ H2 λxs H3=>Q (.ref l::xs) H3):zkd te tr σ H Q:=h H _ (Same.refl H) q
end
theorem zjH{α:Type}{p:α->Prop}:∀d∈([]:List α),p d:=λ_ z=>nomatch z
theorem zjy{H:Hp}{a l:Addr}{n:Int}{vs:List V}{ds:List D}(h:Hand H a n)(e:H l=some (.lst vs))(r:RepL H vs ds)(h3:ds.length≠3):l≠a:=λz=>by
 obtain⟨x,m,t,hh,_⟩:=h
 rw[z,hh] at e
 cases e
 exact h3 r.1.symm
end RW
namespace RW
open PySem PySem.W PyProof.Rows L2
section
variable{α β:Type}{N:Nat}{lt:Nat->Nat->Bool}
def OkT(N:Nat)(lt:Nat->Nat->Bool){α:Type}:KasT α->(α->Prop)->Prop
 | .ret a,P=>P a
 | .ask i j k,P=>i<N/\j<N/\OkT N lt (k (lt i j)) P
theorem OkT.mono{P Q:α->Prop}(h:∀a,P a->Q a):∀{t:KasT α},OkT N lt t P->OkT N lt t Q
 | .ret a,q=>h a q
 | .ask i j k,⟨h1,h2,q⟩=>⟨h1,h2,OkT.mono h q⟩
theorem OkT.bind{f:α->KasT β}{P:β->Prop}:∀{t:KasT α},OkT N lt t (λa=>OkT N lt (f a) P)->OkT N lt (t.bind f) P
 | .ret a,q=>q
 | .ask i j k,⟨h1,h2,q⟩=>⟨h1,h2,OkT.bind q⟩
theorem OkT.wp{cmp:Nat->Nat->(Bool->Shared->Prop)->Shared->Prop}{I:Shared->Prop}(hc:∀i j (C:Bool->Shared->Prop) s,i<N->j<N->I s->(∀s',I s'->C (lt i j) s')->cmp i j C s){P:α->Prop}{Q:α->Shared->Prop}(hq:∀a s,P a->I s->Q a s):
 ∀{t:KasT α} {s:Shared},I s->OkT N lt t P->t.kasWp cmp Q s
 | .ret a,s,hs,q=>hq a s q hs
 | .ask i j k,s,hs,⟨h1,h2,q⟩=>hc i j _ s h1 h2 hs λs' hs'=>OkT.wp hc hq hs' q
noncomputable abbrev gd(p:Array Nat)(i:Nat):Nat:=p.getD i 0
structure Strict(N:Nat)(lt:Nat->Nat->Bool):Prop where
 tot:∀i j,i<N->j<N->i≠j->lt i j=false->lt j i=true
 tr:∀i j k,i<N->j<N->k<N->lt i j=true->lt j k=true->lt i k=true
 asy:∀i j,i<N->j<N->lt i j=true->lt j i=false
def PermN(N:Nat)(p:Array Nat):Prop:=p.toList.Perm (List.range N)
theorem PermN.size{p:Array Nat}(h:PermN N p):p.size=N:=by
 have:=h.length_eq
 simpa using this
theorem gd_get{p:Array Nat}{i:Nat}(h:i<p.size):gd p i=p[i]:=by simp[gd,Array.getD,h]
theorem zgZ{p q:Array Nat}{i j:Nat}(h:p[i]?=q[j]?):gd p i=gd q j:=by
 simp only[gd,Array.getD_eq_getD_getElem?,h]
theorem PermN.bd{p:Array Nat}(h:PermN N p){i:Nat}(hi:i<N):gd p i<N:=by
 have hs:=h.size
 rw[gd_get (by omega)]
 have:p[i]∈p.toList:=by simp
 exact List.mem_range.mp (h.mem_iff.mp this)
theorem PermN.inj{p:Array Nat}(h:PermN N p){i j:Nat}(hi:i<N)(hj:j<N)(hij:i≠j):gd p i≠gd p j:=by
 have hs:=h.size
 have nd:p.toList.Nodup:=h.nodup_iff.mpr List.nodup_range
 rw[gd_get (by omega),gd_get (by omega)]
 intro z
 exact hij ((List.getElem_inj (i:=i) (j:=j) (h₀:=by simp;omega) (h₁:=by simp;omega) nd).mp (by simpa using z))
def Sor(lt:Nat->Nat->Bool)(p:Array Nat)(m:Nat):Prop:=∀i j,i<j->j<m->lt (gd p i) (gd p j)=true
def Des(lt:Nat->Nat->Bool)(p:Array Nat)(m:Nat):Prop:=∀i j,i<j->j<m->lt (gd p j) (gd p i)=true
theorem Sor.snoc{p:Array Nat}{n:Nat}(S:Strict N lt)(hp:PermN N p)(h:Sor lt p n)(h1:1<=n)(hn:n<N)(e:lt (gd p (n -1)) (gd p n)=true):Sor lt p (n+1):=by
 intro i j hij hj
 by_cases hjn:j<n
 ·exact h i j hij hjn
 ·have ej:j=n:=by omega
  subst ej
  by_cases hi:i=j -1
  ·subst hi;exact e
  ·exact S.tr _ _ _ (hp.bd (by omega)) (hp.bd (by omega)) (hp.bd hn) (h i (j -1) (by omega) (by omega)) e
theorem Des.snoc{p:Array Nat}{n:Nat}(S:Strict N lt)(hp:PermN N p)(h:Des lt p n)(h1:1<=n)(hn:n<N)(e:lt (gd p n) (gd p (n -1))=true):Des lt p (n+1):=by
 intro i j hij hj
 by_cases hjn:j<n
 ·exact h i j hij hjn
 ·have ej:j=n:=by omega
  subst ej
  by_cases hi:i=j -1
  ·subst hi;exact e
  ·exact S.tr _ _ _ (hp.bd hn) (hp.bd (by omega)) (hp.bd (by omega)) e (h i (j -1) (by omega) (by omega))
theorem zi8{p:Array Nat}(S:Strict N lt)(hp:PermN N p):∀f n,1<=n->n+f<=N->Sor lt p n->OkT N lt (kas_asc p f n) (λm=>n<=m/\m<=n+f/\Sor lt p m/\(m<n+f->lt (gd p m) (gd p (m -1))=true))
 |0,n,_,_,hs=>⟨Nat.le_refl _,Nat.le_refl _,hs,λh=>by omega⟩
 |f+1,n,h1,hn,hs=>by
  refine⟨hp.bd (by omega),hp.bd (by omega),?_⟩
  cases hc:lt (gd p n) (gd p (n -1))with
  |true=>
   show OkT N lt (if true=true then _ else _) _
   rw[if_pos rfl]
   exact⟨Nat.le_refl _,by omega,hs,λ_=>hc⟩
  |false=>
   show OkT N lt (if false=true then _ else _) _
   rw[if_neg (by decide)]
   refine OkT.mono (λm hm=>⟨by omega,by omega,hm.2.2.1,λh=>hm.2.2.2 (by omega)⟩) (zi8 S hp f (n+1) (by omega) (by omega) (hs.snoc S hp h1 (by omega) (S.tot _ _ (hp.bd (by omega)) (hp.bd (by omega)) (hp.inj (by omega) (by omega) (by omega)) hc)))
theorem zj0{p:Array Nat}(S:Strict N lt)(hp:PermN N p):∀f n,1<=n->n+f<=N->Des lt p n->OkT N lt (kas_desc f p n 0) (λr=>r.1=p/\n<=r.2.1/\r.2.1<=n+f/\Des lt p r.2.1/\r.2.2=0)
 |0,n,_,_,hs=>⟨rfl,Nat.le_refl _,Nat.le_refl _,hs,rfl⟩
 |f+1,n,h1,hn,hs=>by
  refine⟨hp.bd (by omega),hp.bd (by omega),?_⟩
  cases hc:lt (gd p n) (gd p (n -1))with
  |true=>
   show OkT N lt (if true=true then(if 0>0 then _ else _)else _) _
   rw[if_pos rfl,if_neg (by decide)]
   exact OkT.mono (λm hm=>⟨hm.1,by omega,by omega,hm.2.2.2⟩) (zj0 S hp f (n+1) (by omega) (by omega) (hs.snoc S hp h1 (by omega) hc))
  |false=>
   show OkT N lt (if false=true then _ else _) _
   rw[if_neg (by decide)]
   refine⟨hp.bd (by omega),hp.bd (by omega),?_⟩
   have hd:lt (gd p (n -1)) (gd p n)=true:=S.tot _ _ (hp.bd (by omega)) (hp.bd (by omega)) (hp.inj (by omega) (by omega) (by omega)) hc
   show OkT N lt (if lt (gd p (n -1)) (gd p n)=true then _ else _) _
   rw[if_pos hd]
   exact⟨rfl,Nat.le_refl _,by show n<=n+(f+1);omega,hs,rfl⟩
theorem zii{p:Array Nat}(hp:PermN N p)(n:Nat):PermN N (kas_rev p 0 n):=(Array.perm_iff_toList_perm.mp (mirror_perm p 0 n _)).trans hp
theorem znq{p:Array Nat}{n:Nat}(hp:PermN N p)(hn:n<=N)(h:Des lt p n):Sor lt (kas_rev p 0 n) n:=by
 have hs:=hp.size
 have e:∀k,k<n->gd (kas_rev p 0 n) k=gd p (n -1 -k):=λk hk=>by
  refine zgZ ?_
  show(mirror p 0 n ((n -0)/2))[k]?=_
  rw[getElem?_mirror_all (by omega),if_pos ⟨Nat.zero_le _,hk⟩,Nat.zero_add]
 intro i j hij hj
 rw[e i (by omega),e j hj]
 exact h (n -1 -j) (n -1 -i) (by omega) (by omega)
def zlC(N:Nat)(lt:Nat->Nat->Bool)(r:Nat×Array Nat):Prop:=PermN N r.2/\Sor lt r.2 r.1/\1<=r.1/\r.1<=N
theorem zmW{p:Array Nat}{n:Nat}(S:Strict N lt)(hp:PermN N p)(h1:1<=n)(hn:n<=N)(h:Des lt p n):OkT N lt (kas_tail3 n N p) (zlC N lt):=by
 refine OkT.bind (OkT.mono (λm hm=>?_) (zi8 S (zii hp n) (N -n) n h1 (by omega) (znq hp hn h)))
 exact⟨zii hp n,hm.2.2.1,by have:=hm.1;omega,by have:=hm.2.1;omega⟩
theorem zl0{p:Array Nat}(S:Strict N lt)(hp:PermN N p)(h1:1<=N):OkT N lt (kas_count N p) (zlC N lt):=by
 refine OkT.bind (OkT.mono (λn hn=>?_) (zi8 S hp (N -1) 1 (Nat.le_refl _) (by omega) (λi j hij hj=>by omega)))
 obtain⟨n1,n2,hs,hl⟩:=hn
 by_cases hN:(n==N)=true
 ·rw[if_pos hN]
  exact⟨hp,hs,n1,by omega⟩
 ·have hne:n≠N:=by simpa using hN
  rw[if_neg hN]
  by_cases h2:n>1
  ·rw[if_pos h2]
   refine⟨hp.bd (by omega),hp.bd (by omega),?_⟩
   show OkT N lt (if lt (gd p 0) (gd p (n -1))=true then _ else _) _
   rw[if_pos (hs 0 (n -1) (by omega) (by omega))]
   exact⟨hp,hs,n1,by omega⟩
  ·rw[if_neg h2]
   have e1:n=1:=by omega
   subst e1
   have hd:Des lt p 2:=λi j hij hj=>by
    have ei:i=0:=by omega
    have ej:j=1:=by omega
    subst ei ej
    exact hl (by omega)
   refine OkT.bind (OkT.mono (λr hr=>?_) (zj0 S hp (N -(1+1)) (1+1) (by omega) (by omega) hd))
   obtain⟨e1,r1,r2,r3,r4⟩:=hr
   rw[if_neg (by omega),e1]
   exact zmW S hp (by omega) (by omega) r3
theorem zfI{p:Array Nat}{k:Nat}(S:Strict N lt)(hp:PermN N p)(hs:Sor lt p k)(hk:k<N):∀f l r,l<=r->r<=k->r -l<=f->(∀i,i<l->lt (gd p i) (gd p k)=true)->(∀i,r<=i->i<k->lt (gd p k) (gd p i)=true)->
 OkT N lt (kas_place p k f l r) (λm=>m<=k/\(∀i,i<m->lt (gd p i) (gd p k)=true)/\∀i,m<=i->i<k->lt (gd p k) (gd p i)=true)
 |0,l,r,h1,h2,h3,ha,hb=>⟨by omega,ha,λi hi=>hb i (by omega)⟩
 |f+1,l,r,h1,h2,h3,ha,hb=>by
  by_cases hlr:l≥r
  ·show OkT N lt (if l≥r then _ else _) _
   rw[if_pos hlr]
   exact⟨by omega,ha,λi hi=>hb i (by omega)⟩
  ·show OkT N lt (if l≥r then _ else _) _
   rw[if_neg hlr]
   refine⟨hp.bd hk,hp.bd (by omega),?_⟩
   cases hc:lt (gd p k) (gd p ((l+r)/2))with
   |true=>
    show OkT N lt (if true=true then _ else _) _
    rw[if_pos rfl]
    refine zfI S hp hs hk f l ((l+r)/2) (by omega) (by omega) (by omega) ha λi hi hik=>?_
    by_cases e:i=(l+r)/2
    ·subst e;exact hc
    ·exact S.tr _ _ _ (hp.bd hk) (hp.bd (by omega)) (hp.bd (by omega)) hc (hs ((l+r)/2) i (by omega) hik)
   |false=>
    show OkT N lt (if false=true then _ else _) _
    rw[if_neg (by decide)]
    have hm:lt (gd p ((l+r)/2)) (gd p k)=true:=S.tot _ _ (hp.bd hk) (hp.bd (by omega)) (hp.inj hk (by omega) (by omega)) hc
    refine zfI S hp hs hk f ((l+r)/2+1) r (by omega) h2 (by omega) (λi hi=>?_) hb
    by_cases e:i=(l+r)/2
    ·subst e;exact hm
    ·exact S.tr _ _ _ (hp.bd (by omega)) (hp.bd (by omega)) (hp.bd hk) (hs i ((l+r)/2) (by omega) (by omega)) hm
theorem zjb{p:Array Nat}{k l:Nat}(hp:PermN N p)(hk:k<N)(hl:l<=k)(hs:Sor lt p k)(ha:∀i,i<l->lt (gd p i) (gd p k)=true)(hb:∀i,l<=i->i<k->lt (gd p k) (gd p i)=true):Sor lt (bubble p k (k -l)) (k+1):=by
 have hz:=hp.size
 have g:∀i,(bubble p k (k -l))[i]?=if i=l then p[k]? else if l<i/\i<=k then p[i -1]? else p[i]?:=λi=>by
  rw[getElem?_bubble (by omega) (k -l) (by omega),show k -(k -l)=l by omega]
 have g1:gd (bubble p k (k -l)) l=gd p k:=zgZ (by rw[g,if_pos rfl])
 have g2:∀i,l<i->i<=k->gd (bubble p k (k -l)) i=gd p (i -1):=λi h1 h2=>zgZ (by rw[g,if_neg (by omega),if_pos ⟨h1,h2⟩])
 have g3:∀i,i<l->gd (bubble p k (k -l)) i=gd p i:=λi h1=>zgZ (by rw[g,if_neg (by omega),if_neg (by omega)])
 intro i j hij hj
 rcases Nat.lt_trichotomy i l with hi|hi|hi
 ·rw[g3 i hi]
  rcases Nat.lt_trichotomy j l with h|h|h
  ·rw[g3 j h];exact hs i j hij (by omega)
  ·subst h;rw[g1];exact ha i hi
  ·rw[g2 j h (by omega)];exact hs i (j -1) (by omega) (by omega)
 ·subst hi
  rw[g1,g2 j hij (by omega)]
  exact hb (j -1) (by omega) (by omega)
 ·rw[g2 i hi (by omega),g2 j (by omega) (by omega)]
  exact hs (i -1) (j -1) (by omega) (by omega)
theorem zlO(S:Strict N lt):∀f (p:Array Nat) k,PermN N p->Sor lt p k->k+f=N->OkT N lt (kas_bin f p k) (λp'=>PermN N p'/\Sor lt p' N)
 |0,p,k,hp,hs,hk=>⟨hp,by have:k=N:=by omega
                         rw[←this];exact hs⟩
 |f+1,p,k,hp,hs,hk=>by
  refine OkT.bind (OkT.mono (λl hl=>?_) (zfI S hp hs (by omega) k 0 k (Nat.zero_le _) (Nat.le_refl _) (by omega) (λi hi=>by omega) (λi hi hik=>by omega)))
  exact zlO S f _ (k+1) ((Array.perm_iff_toList_perm.mp (bubble_perm p k _)).trans hp) (zjb hp (by omega) hl.1 hs hl.2.1 hl.2.2) (by omega)
theorem sort_ok(S:Strict N lt)(h1:1<=N):OkT N lt (kas_sort N) (λp=>PermN N p/\Sor lt p N):=by
 have h0:PermN N (List.toArray (List.range N)):=by show(List.range N).Perm _;exact List.Perm.refl _
 refine OkT.bind (OkT.mono (λr hr=>?_) (zl0 S h0 h1))
 obtain⟨c1,c2,c3,c4⟩:=hr
 by_cases h:r.1<N
 ·rw[if_pos h]
  have e:max r.1 1=r.1:=by omega
  rw[e]
  exact zlO S _ _ _ c1 c2 (by omega)
 ·rw[if_neg h]
  have e:r.1=N:=by omega
  rw[e] at c2
  exact⟨c1,c2⟩
end
end RW
namespace L2
open PySem PySem.W PySem.Spec PyProof.Rows
def RawD(h:Heap)(d:Addr)(ks:List Value)(ep:Nat):Prop:=∃o es,h.get? d=some o/\o.ExactDict/\o.data= .dict es ep/\es.toList.map (·.key)=ks
theorem RawD.at{h h':Heap}{d:Addr}{ks:List Value}{ep:Nat}(x:RawD h d ks ep)(e:∀o,h.get? d=some o->h'.get? d=some o):RawD h' d ks ep:=let⟨o,es,ho,r⟩:=x;⟨o,es,e _ ho,r⟩
theorem RawD.ty{s:Shared}{d:Addr}{ks:List Value}{ep:Nat}(x:RawD s.heap d ks ep):s.TypeIs (.ref d) "dict":=let⟨o,_,ho,hc,_⟩:=x;⟨o,ho,hc.1⟩
theorem RawD.lt{h:Heap}{d:Addr}{ks:List Value}{ep:Nat}(x:RawD h d ks ep):d<h.objs.size:=let⟨_,_,ho,_⟩:=x;Heap.lt_size ho
section
variable{prog:Program}{w:World}{A:Around}{E:Value->Shared->Prop}{s:Shared}{it d:Addr}{i ep:Nat}{ks:List Value}
theorem zmj{R:Value->Shared->Prop}(nsys:(d==sysModules)=false)(x:RawD s.heap d ks ep)(q:R (.ref s.heap.objs.size) {s with heap:=s.heap.push {cls:= .type "dict_keyiterator",data:= .fields #[.ref d, .int 0 0, .int ks.length 0, .int ep 0]}}):
 wpAny (model prog w) A (pyIter (.ref d)) R E s:=by
 have ty:=x.ty
 obtain⟨o,es,ho,_,hdat,hks⟩:=x
 refine wpAny_pyIter_slot ty PySem.F.slot_dict_iter (wpAny_call_entry PySem.F.slot_dict_iter ty PySem.F.entry_dict_iter ?_ (PySem.F.args_dict_iter_1 _))
 unfold Builtin.«dict.__iter__»
 refine wpAny_bind (by unfold Builtin.Dict.dictSlotNone;refine wpAny_bind (wpAny_notOrdered_dict ty ?_);show wpAny _ _ (pure (Value.ref d)) _ _ s;exact wpAny_pure (by
  show wpAny _ _ (Builtin.Dict.showsAll d>>=_) _ _ s
  unfold Builtin.Dict.showsAll
  rw[if_neg (λz=>by rw[nsys] at z;cases z)]
  refine wpAny_bind (wpAny_pure (wpAny_bind (wpAny_dictEntries ho hdat (wpAny_bind (wpAny_dictEpoch ho hdat ?_)))))
  have sz:es.size=ks.length:=by rw[←hks];simp
  refine wpAny_bind (wpAny_newObj_type (wpAny_pure ⟨_,rfl,"dict_keyiterator",_,⟨_,Heap.get?_push_size _ rfl,rfl⟩,PySem.F.slot_dict_keyiterator_next.lookup,?_⟩))
  simpa[rawInt,sz] using q))
theorem zmQ{R:Option Value->Shared->Prop}{key:Value}(y:s.heap.IsKeyIter it d i ks.length ep)(x:RawD s.heap d ks ep)(hx:ks[i]?=some key)
 (q:∀h',h'.IsKeyIter it d (i+1) ks.length ep->Heap.SameBut it s.heap h'->R (some key) {s with heap:=h'}):wpAny (model prog w) A (pyNext (.ref it)) R E s:=by
 obtain⟨o,ho,hc,hd⟩:=id y
 obtain⟨od,es,hod,_,hdd,hks⟩:=x
 have sz:es.size=ks.length:=by rw[←hks];simp
 have li:i<ks.length:=by
  rcases Nat.lt_or_ge i ks.length with h|h
  ·exact h
  ·rw[List.getElem?_eq_none h] at hx;cases hx
 have li':i<es.size:=by omega
 have ek:es[i].key=key:=by
  have e1:ks[i]?=some es[i].key:=by rw[←hks];simp[li']
  rw[e1] at hx;exact Option.some.inj hx
 unfold pyNext
 refine wpAny_bind (wpAny_attempt (wpAny_callSpecial?_slot (name:=Str.ofString "__next__") y.typeIs PySem.F.slot_dict_keyiterator_next (wpAny_call_entry PySem.F.slot_dict_keyiterator_next y.typeIs PySem.F.entry_dict_keyiterator_next ?_ (PySem.F.args_dict_keyiterator_next_1 _))))
 refine wpAny_bind (wpAny_pure (wpAny_bind (wpAny_bind ?_)))
 first|refine wpAny_bind (wpAny_typeNameOfWhole_keyiter y.typeIs (wpAny_pure ?_))|refine wpAny_bind (wpAny_typeNameOf_keyiter y.typeIs (wpAny_pure ?_))
 refine wpAny_bind (wpAny_fieldsOf ho hd ?_)
 simp only[(by decide:Builtin.Dict_items.ownsTuple "dict_keyiterator"=false),Bool.false_eq_true,if_false]
 show wpAny _ _ (if(Value.ref d==Value.none)=true then _ else _) _ _ s
 rw[if_neg (λz=>nomatch z)]
 refine wpAny_bind (wpAny_pure (wpAny_bind (wpAny_dictEntries hod hdd ?_)))
 rw[if_neg (λz=>by rw[sz] at z;simp at z)]
 refine wpAny_bind (wpAny_pure (wpAny_bind (wpAny_dictEpoch hod hdd ?_)))
 rw[if_neg (λz=>by simp at z)]
 refine wpAny_pure ?_
 simp only[(by omega:¬((i:Int)<0)),if_false,Int.toNat_natCast,Array.getElem?_eq_getElem li']
 refine wpAny_bind ?_
 first|refine wpAny_bind (wpAny_typeNameOfWhole_keyiter y.typeIs (wpAny_pure ?_))|refine wpAny_bind (wpAny_typeNameOf_keyiter y.typeIs (wpAny_pure ?_))
 refine wpAny_bind (wpAny_isOneOf_keyiter y.typeIs ?_)
 show wpAny _ _ (setField (.ref it) 1 (rawInt ((i:Int)+1))>>=_) _ _ s
 refine wpAny_bind (wpAny_setField ho hd (by simp) ?_)
 have y':(s.heap.update it (Obj.mapFields (·.setIfInBounds 1 (rawInt ((i:Int)+1))))).IsKeyIter it d (i+1) ks.length ep:=⟨_,Heap.get?_update_self _ ho (Obj.isFreed_of_fields (Obj.data_mapFields hd _)),(Obj.cls_mapFields ..).trans hc,by rw[Obj.data_mapFields hd];simp[rawInt]⟩
 refine wpAny_bind (wpAny_holding (wpAny_bind (wpAny_isOneOf_keyiter (s:={s with heap:=s.heap.update it (Obj.mapFields (·.setIfInBounds 1 (rawInt ((i:Int)+1))))}) y'.typeIs ?_)))
 show wpAny _ _ (pure es[i].key) _ _ _
 rw[ek]
 exact wpAny_pure (wpAny_pure ⟨_,rfl,wpAny_pure (q _ y' (Heap.SameBut.update ..))⟩)
theorem znb{R:Option Value->Shared->Prop}(hh:A.handled=none)(y:s.heap.IsKeyIter it d ks.length ks.length ep)(x:RawD s.heap d ks ep)(q:∀h',Heap.ExtBut it s.heap h'->R none {s with heap:=h'}):wpAny (model prog w) A (pyNext (.ref it)) R E s:=by
 obtain⟨o,ho,hc,hd⟩:=id y
 obtain⟨od,es,hod,_,hdd,hks⟩:=x
 have sz:es.size=ks.length:=by rw[←hks];simp
 unfold pyNext
 refine wpAny_bind (wpAny_attempt (wpAny_callSpecial?_slot (name:=Str.ofString "__next__") y.typeIs PySem.F.slot_dict_keyiterator_next (wpAny_call_entry PySem.F.slot_dict_keyiterator_next y.typeIs PySem.F.entry_dict_keyiterator_next ?_ (PySem.F.args_dict_keyiterator_next_1 _))))
 refine wpAny_bind (wpAny_pure (wpAny_bind (wpAny_bind ?_)))
 first|refine wpAny_bind (wpAny_typeNameOfWhole_keyiter y.typeIs (wpAny_pure ?_))|refine wpAny_bind (wpAny_typeNameOf_keyiter y.typeIs (wpAny_pure ?_))
 refine wpAny_bind (wpAny_fieldsOf ho hd ?_)
 simp only[(by decide:Builtin.Dict_items.ownsTuple "dict_keyiterator"=false),Bool.false_eq_true,if_false]
 show wpAny _ _ (if(Value.ref d==Value.none)=true then _ else _) _ _ s
 rw[if_neg (λz=>nomatch z)]
 refine wpAny_bind (wpAny_pure (wpAny_bind (wpAny_dictEntries hod hdd ?_)))
 rw[if_neg (λz=>by rw[sz] at z;simp at z)]
 refine wpAny_bind (wpAny_pure (wpAny_bind (wpAny_dictEpoch hod hdd ?_)))
 rw[if_neg (λz=>by simp at z)]
 refine wpAny_pure ?_
 simp only[(by omega:¬((ks.length:Int)<0)),if_false,Int.toNat_natCast,Array.getElem?_eq_none (show es.size<=ks.length by omega)]
 refine wpAny_bind ?_
 first|refine wpAny_bind (wpAny_typeNameOfWhole_keyiter y.typeIs (wpAny_pure ?_))|refine wpAny_bind (wpAny_typeNameOf_keyiter y.typeIs (wpAny_pure ?_))
 show wpAny _ _ (setField (.ref it) 0 .none>>=_) _ _ s
 refine wpAny_bind (wpAny_setField ho hd (by simp) ?_)
 show wpAny _ _ (newExc (.type "StopIteration") []>>=_) _ _ _
 refine wpAny_bind (by
  simp only[newExc,newTuple]
  refine wpAny_bind (wpAny_newObj_type (wpAny_bind (m:=firstArgMember _ _) (wpAny_of_eq (a:=Value.none) (by first|rfl|(simp only[firstArgMember];rfl)) (wpAny_newObj_type ?_ (by size_fits)))) (by size_fits))
  simp only[raiseNew]
  refine wpAny_bind (wpAny_handled ?_)
  rw[show A.in1.handled=none from hh]
  refine wpAny_bind (wpAny_pure (wpAny_throw ?_));refine wpAny_bind (wpAny_isInstance (T:="StopIteration") (b:=true) ⟨_,Heap.get?_push_size _ rfl,rfl⟩ isSubtype_stop ?_)
  exact wpAny_pure (q _ (((Heap.SameBut.update ..).extBut.push _).push _)))
theorem zkB(hh:A.handled=none)(hne:d≠it):Walks prog w A it [it,d] [it] ks.length (λi v=>ks[i]?=some v) (λi h=>h.IsKeyIter it d i ks.length ep/\RawD h d ks ep) where
 sub:=λb hb=>by simp at hb;simp[hb]
 frame:=λ_ _ _ st hk=>⟨st.1.at λo e=>hk it (by simp) o e,st.2.at λo e=>hk d (by simp) o e⟩
 item:=λi s Q E hi st hQ=>zmQ st.1 st.2 (show ks[i]?=some ks[i] by simp[hi]) λh' y' hs=>hQ _ h' s.toks (by simp[hi]) ⟨y',st.2.at λo e=>hs.extBut d o hne e⟩ λb o hb e=>hs.extBut b o (λh=>hb (by simp[h])) e
 done:=λs Q E st hQ=>znb hh st.1 st.2 λh' he=>hQ h' s.toks λb o hb e=>he b o (λh=>hb (by simp[h])) e
 self:=λ_ _ _ _ st hQ=>wpAny_pyIter_keyiter st.1 hQ
theorem zkk(nsys:(d==sysModules)=false):KdlSrc prog w "dict" d d ks.length (λi v=>ks[i]?=some v) (λh=>RawD h d ks ep) where
 type:=λ_ hm=>hm.ty
 there:=λ_ hm=>⟨hm.lt,hm.lt⟩
 keep:=λ_ _ hm hk=>hm.at λo e=>hk d (.inl rfl) o e
 notList:=by decide
 notTuple:=by decide
 hint:=λ_ _ _ _ hm hq=>kdl_hint_dict hm.ty hq
 iter:=λ_ _ hh hm=>⟨_,_,(λ_ _ hq=>zmj nsys hm hq),zkB hh (Nat.ne_of_lt hm.lt),⟨⟨_,Heap.get?_push_size _ rfl,rfl,rfl⟩,hm.at λo e=>Heap.get?_push_of_some _ e⟩⟩
end
section
variable{prog:Program}{w:World}{A:Around}{E:Value->Shared->Prop}{s:Shared}
def Kp(a:Addr)(s s1:Shared):Prop:=s1={s with heap:=s1.heap}/\∀b o,b≠a->s.heap.get? b=some o->s1.heap.get? b=some o
theorem zkR{a:Addr}{vs:List Value}{n:Nat}{R:PySem.Fin->Shared->Prop}{G:Array Nat->Prop}{κ:SortKind}(ho:s.heap.get? a=some (seqObj "list" vs.toArray n))(h64:vs.length<64)
 (hk:2<=vs.length->∀s1:Shared,Kp a s s1->(∀C:SortKind->Shared->Prop,C κ s1->wpAny (model prog w) A (keyKind' vs.toArray) C E s1)/\(kas_sort vs.length).kasWp (kas_ask prog w A κ vs) (λp s'=>s'=s1/\G p) s1)
 (q:∀(out:List Value) (h':Heap) (c:Nat),(vs.length<2/\out=vs\/∃p:Array Nat,p.size=vs.length/\G p/\out=p.toList.map λi=>vs.getD i Value.none)->(∀b o,b≠a->s.heap.get? b=some o->h'.get? b=some o)->
   h'.get? a=some (seqObj "list" out.toArray c)->R (.done (.ret .none)) {s with heap:=h'}):wpAny (model prog w) A (Builtin.«list.sort» ⟨[.ref a],[]⟩) R E s:=by
 have la:a<s.heap.objs.size:=Heap.lt_size ho
 have lz:vs.toArray.size=vs.length:=List.size_toArray ..
 have u1:=Heap.SameBut.update s.heap a (Obj.mapSeq λ_=>(#[]:Array Value))
 obtain⟨e1,g1⟩:∃e1,(s.heap.update a (Obj.mapSeq λ_=>(#[]:Array Value))).get? a=some (seqObj "list" #[] e1):=⟨_,get?_update_seq ho λ_=> #[]⟩
 rw[list_sort_plain]
 refine wpAny_bind (listItems_at ho rfl (wpAny_bind (listUpdate_at ho rfl (wpAny_bind (seqEpoch_at g1 rfl (wpAny_bind (wpAny_newTuple (wpAny_bind (wpAny_newList (wpAny_holding ?_) (Nat.zero_le _))) (by show vs.length<=_;rw[sizeLine_eq];omega))))) (by rw[lz,sizeLine_eq];omega) (Nat.zero_le _))))
 generalize hs1:({s with heap:=((s.heap.update a (Obj.mapSeq λ_=>(#[]:Array Value))).push (seqObj "tuple" vs.toArray 0)).push (seqObj "list" #[] 0)}:Shared)=s1
 have kp:∀b o,(s.heap.update a (Obj.mapSeq λ_=>(#[]:Array Value))).get? b=some o->s1.heap.get? b=some o:=λb o e=>by rw[←hs1];exact Heap.get?_push_of_some _ (Heap.get?_push_of_some _ e)
 have k1:Kp a s s1:=⟨by rw[←hs1],λb o nb e=>kp b o ((u1.2 b nb).trans e)⟩
 have g2:s1.heap.get? a=some (seqObj "list" #[] e1):=kp a _ g1
 dsimp only
 have fin:∀(st:SortSt) (out:List Value),(arrOf st).map (·.2)=out.toArray->failedOf st=none->out.length<64->(vs.length<2/\out=vs\/∃p:Array Nat,p.size=vs.length/\G p/\out=p.toList.map λi=>vs.getD i Value.none)->
  wpAny (model prog w) A (do
   let touched:=(←seqEpoch a) !=e1
   Builtin.List.listUpdate (.ref a) λ_=>(arrOf st).map (·.2)
   if let some e:=failedOf st then rule "list.sort.comparison-raised";throw e
   if touched then rule "list.sort.modified";raiseError "ValueError" "list modified during sort"
   ret .none) R E s1:=by
  intro st out ho hf hl hc
  rw[ho]
  have u2:=Heap.SameBut.update s1.heap a (Obj.mapSeq λ_=>out.toArray)
  obtain⟨c2,g3⟩:∃c2,(s1.heap.update a (Obj.mapSeq λ_=>out.toArray)).get? a=some (seqObj "list" out.toArray c2):=⟨_,get?_update_seq g2 λ_=>out.toArray⟩
  refine wpAny_bind (seqEpoch_at g2 rfl (wpAny_bind (listUpdate_at g2 rfl ?_ (Nat.zero_le _) (by show out.toArray.size<=_;rw[List.size_toArray,sizeLine_eq];omega))))
  rw[hf]
  simp only[bne_self_eq_false,Bool.false_eq_true,if_false]
  have:=q out _ c2 hc (λb o nb e=>(u2.2 b nb).trans (k1.2 b o nb e)) g3
  rw[k1.1]
  exact wpAny_pure this
 by_cases h2:vs.toArray.size<2
 ·rw[if_pos h2,if_pos h2]
  refine wpAny_bind (wpAny_pure ?_)
  rw[StateT.run_pure]
  refine wpAny_bind (wpAny_pure ?_)
  refine fin _ vs ?_ rfl h64 (.inl ⟨by omega,rfl⟩)
  apply Array.toList_inj.mp
  show((vs.toArray.zip vs.toArray).map (·.2)).toList=_
  rw[Array.toList_map,Array.toList_zip]
  exact List.map_snd_zip (Nat.le_refl _)
 ·rw[if_neg h2,if_neg h2]
  obtain⟨hkk,hw⟩:=hk (by omega) s1 k1
  refine wpAny_bind (hkk _ ?_)
  refine wpAny_bind (wpAny_mono (kat_run (E:=E) (Q:=λst' s'=>s'=s1/\∃p:Array Nat,p.size=vs.length/\arrOf st'=p.map (kas_item (vs.toArray.zip vs.toArray))/\failedOf st'=none/\G p) rfl (by omega) h64 (λp st' s' x1 x2 x3 x4=>⟨x4.1,p,x1,x2,x3,x4.2⟩) hw) ?_ λ_ _ e=>e)
  rintro⟨⟨⟩,st'⟩ s' ⟨rfl,p,hp,har,hf,hG⟩
  refine fin st' (p.toList.map λi=>vs.getD i Value.none) (kat_snds rfl har) hf (by rw[List.length_map,Array.length_toList,hp];exact h64) (.inr ⟨p,hp,hG,rfl⟩)
theorem zfY{r d:Addr}{T:String}{n:Nat}{Pn:Nat->Value->Prop}{OK:Heap->Prop}{R:List Value->Shared->Prop}(K:KdlSrc prog w T r d n Pn OK)(hh:A.handled=none)(hok:OK s.heap)(hn:n<=sizeLine)
 (q:∀(h':Heap) (tk:Nat) (acc:Array Value),(∀b o,s.heap.get? b=some o->h'.get? b=some o)->s.heap.objs.size<h'.objs.size->ItemsOf Pn acc n->R acc.toList {s with heap:=h',toks:=tk}):wpAny (model prog w) A (collect (.ref r)) R E s:=by
 have lt:=K.there _ hok
 have g0:(s.heap.push {cls:= .type "list",data:= .seq ([]:List Value).toArray}).get? s.heap.objs.size=some {cls:= .type "list",data:= .seq #[]}:=Heap.get?_push_size _ rfl
 have key:=kdl_extend (A:=A) (s:={s with heap:=s.heap.push {cls:= .type "list",data:= .seq ([]:List Value).toArray}}) (R:=λ(f:Result) (s':Shared)=>∃(h':Heap) (tk:Nat) (acc':Array Value) (c':Nat),f= .ok (.ret (.ref s.heap.objs.size))/\s'={s with heap:=h',toks:=tk}/\(∀b o,s.heap.get? b=some o->h'.get? b=some o)/\h'.get? s.heap.objs.size=some {cls:= .type "list",dict:=none,data:= .seq acc' c',slots:= #[]}/\ItemsOf Pn acc' n)
  K hh (K.keep _ _ hok λb _ o e=>Heap.get?_push_of_some _ e) s.heap.objs.size (Nat.ne_of_gt lt.1) (Nat.ne_of_gt lt.2) (.ref s.heap.objs.size) 0 g0 (λh' tk acc' c' kp gS ia=>⟨h',tk,acc',c',rfl,rfl,λb o e=>kp b o (Nat.ne_of_lt (Heap.lt_size e)) (Heap.get?_push_of_some _ e),gS,ia⟩) hn
 unfold collect
 refine wpAny_bind (wpAny_runValue (codeAny_builtin entry_proto_collect' (by
  rw[Around.under_plainId PySem.F.plain_proto_collect _]
  show wpAny _ A.in1 (newList []>>=λl=>again (.builtin "list.__iadd__" ⟨[l, .ref r],[]⟩)) _ _ s
  refine wpAny_bind (wpAny_newObj_type (wpAny_pure ⟨plainId_quiet PySem.F.plain_list_iadd _,codeAny_builtin entry_list_iadd' (by
   rw[Around.under_plainId PySem.F.plain_list_iadd _]
   show wpAny _ A.in1 (Builtin.List.listExtendWith (.ref s.heap.objs.size) (.ref r) (.ref s.heap.objs.size)) _ _ _
   refine wpAny_mono key (λfin s' x=>?_) λe s' x=>?_
   ·cases fin with
    |done f=>
     obtain⟨h',tk,acc',c',e,rfl,kp,gS,ia⟩:=x;cases e
     show wpAny _ A (load s.heap.objs.size>>=_) _ _ _
     exact wpAny_bind (wpAny_load gS (wpAny_pure (q h' tk acc' kp (Heap.lt_size gS) ia)))
    |again c₁=>
     refine⟨x.1,codeAny_mono x.2 λf s₂ y=>?_⟩
     obtain⟨h',tk,acc',c',rfl,rfl,kp,gS,ia⟩:=y
     show wpAny _ A (load s.heap.objs.size>>=_) _ _ _
     exact wpAny_bind (wpAny_load gS (wpAny_pure (q h' tk acc' kp (Heap.lt_size gS) ia)))
   ·obtain ⟨_,_,_,_,e',_⟩:=x
    cases e')⟩)))))
theorem zjK{r d:Addr}{T:String}{OK:Heap->Prop}{ks:List Value}{R:Value->Shared->Prop}{G:Array Nat->Prop}{κ:SortKind}(K:KdlSrc prog w T r d ks.length (λi v=>ks[i]?=some v) OK)(hh:A.handled=none)(hok:OK s.heap)(h64:ks.length<64)
 (hk:2<=ks.length->∀s1:Shared,(∀b o,s.heap.get? b=some o->s1.heap.get? b=some o)->(∀C:SortKind->Shared->Prop,C κ s1->wpAny (model prog w) A.in1.in1 (keyKind' ks.toArray) C (λ_ _=>False) s1)/\(kas_sort ks.length).kasWp (kas_ask prog w A.in1.in1 κ ks) (λp s'=>s'=s1/\G p) s1)
 (q:∀(D:Addr) (out:List Value) (h':Heap) (tk c:Nat),(ks.length<2/\out=ks\/∃p:Array Nat,p.size=ks.length/\G p/\out=p.toList.map λi=>ks.getD i Value.none)->(∀b o,s.heap.get? b=some o->h'.get? b=some o)->
   s.heap.objs.size<=D->h'.get? D=some (seqObj "list" out.toArray c)->R (.ref D) {s with heap:=h',toks:=tk}):wpAny (model prog w) A (call (.builtin "sorted") [.ref r]) R E s:=by
 refine Calls.call_function_entry kind_sorted plain_sorted entry_sorted (args_sorted1 _) ?_
 unfold Builtin.«sorted»
 refine wpAny_bind (m:=checkCount "sorted" 1 1 _) (wpAny_pure (wpAny_bind (zfY (A:=A.in1) K hh hok (by rw[sizeLine_eq];omega) λh1 tk acc kp gr0 hacc=>?_)))
 have ea:acc.toList=ks:=by
  apply List.ext_getElem?
  intro i
  rcases Nat.lt_or_ge i ks.length with h|h
  ·have hi:i<acc.size:=by rw[hacc.1];exact h
   rw[Array.getElem?_toList,Array.getElem?_eq_getElem hi]
   exact(hacc.2 i acc[i] (by rw[Array.getElem?_eq_getElem hi])).symm
  ·rw[List.getElem?_eq_none h,List.getElem?_eq_none (by rw[Array.length_toList,hacc.1];exact h)]
 rw[ea]
 refine wpAny_bind (wpAny_newList ?_ (by rw[sizeLine_eq];omega))
 have hD:(h1.push (seqObj "list" ks.toArray 0)).get? h1.objs.size=some (seqObj "list" ks.toArray 0):=Heap.get?_push_size _ rfl
 have k2:∀b o,s.heap.get? b=some o->(h1.push (seqObj "list" ks.toArray 0)).get? b=some o:=λb o e=>Heap.get?_push_of_some _ (kp b o e)
 have gr:s.heap.objs.size<=h1.objs.size:=Nat.le_of_lt gr0
 show wpAny _ _ _ _ _ {s with heap:=h1.push (seqObj "list" ks.toArray 0),toks:=tk}
 refine wpAny_bind (wpAny_holding (wpAny_call_entry slot_list_sort ⟨_,hD,rfl⟩ entry_list_sort (zkR (G:=G) (κ:=κ) (s:={s with heap:=h1.push (seqObj "list" ks.toArray 0),toks:=tk}) hD h64 (λh2 s1 k1=>?_) λout h' c hc hkp hg=>?_) (args_list_sort _)))
 ·obtain ⟨x1,x2⟩:=hk h2 s1 λb o e=>k1.2 b o (Nat.ne_of_lt (Nat.lt_of_lt_of_le (Heap.lt_size e) gr)) (k2 b o e)
  exact⟨λC hC=>wpAny_mono (x1 C hC) (λ_ _ z=>z) λ_ _ z=>z.elim,x2⟩
 ·exact ⟨_,rfl,wpAny_pure ⟨_,rfl,q h1.objs.size out h' tk c hc (λb o e=>hkp b o (Nat.ne_of_lt (Nat.lt_of_lt_of_le (Heap.lt_size e) gr)) (k2 b o e)) gr hg⟩⟩
end
noncomputable abbrev ltS(x y:Str):Bool:=decide (x.cps.toList<y.cps.toList)
noncomputable def ltP(p q:Str×Str):Bool:=if p.1=q.1 then(if p.2=q.2 then false else ltS p.2 q.2)else ltS p.1 q.1
theorem zjW:∀(a b:List Nat),a≠b->¬a<b->b<a
 |[],[],h,_=>absurd rfl h
 |[],b::bs,_,h=>absurd (List.nil_lt_cons b bs) h
 |a::as,[],_,_=>List.nil_lt_cons a as
 |a::as,b::bs,h,hn=>by
  rw[List.cons_lt_cons_iff] at hn⊢
  rcases Nat.lt_trichotomy a b with q|q|q
  ·exact absurd (.inl q) hn
  ·subst q
   exact .inr ⟨rfl,zjW as bs (λz=>h (by rw[z])) (λz=>hn (.inr ⟨rfl,z⟩))⟩
  ·exact .inl q
theorem zjB:∀{a b c:List Nat},a<b->b<c->a<c
 |_,[],_,h,_=>absurd h (by simp)
 |_,_::_,[],_,h=>absurd h (by simp)
 |[],_::_,c::cs,_,_=>List.nil_lt_cons c cs
 |a::as,b::bs,c::cs,h1,h2=>by
  rw[List.cons_lt_cons_iff] at h1 h2⊢
  rcases h1 with h1|⟨rfl,h1⟩
  ·rcases h2 with h2|⟨rfl,h2⟩
   ·exact .inl (by omega)
   ·exact .inl h1
  ·rcases h2 with h2|⟨rfl,h2⟩
   ·exact .inl h2
   ·exact .inr ⟨rfl,zjB h1 h2⟩
theorem zg2:∀(a:List Nat),¬a<a
 |[],h=>absurd h (by simp)
 |a::as,h=>by
  rw[List.cons_lt_cons_iff] at h
  rcases h with h|⟨_,h⟩
  ·omega
  ·exact zg2 as h
theorem znH{x y:Str}(h:x.cps.toList=y.cps.toList):x=y:=by
 cases x;cases y
 simp only[Str.mk.injEq]
 exact Array.toList_inj.mp h
theorem zc0{x y:Str}(h:x≠y)(e:ltS x y=false):ltS y x=true:=decide_eq_true (zjW _ _ (λz=>h (znH z)) (of_decide_eq_false e))
theorem zfz{x y z:Str}(h1:ltS x y=true)(h2:ltS y z=true):ltS x z=true:=decide_eq_true (zjB (of_decide_eq_true h1) (of_decide_eq_true h2))
theorem ze5(x:Str):ltS x x=false:=decide_eq_false (zg2 _)
theorem ze2{x y:Str}(h:ltS x y=true):ltS y x=false:=decide_eq_false λz=>zg2 _ (zjB (of_decide_eq_true h) z)
theorem zjc{x y:Str}(h:ltS x y=true):x≠y:=λz=>by rw[z,ze5] at h;cases h
theorem znc{p q:Str×Str}(h:p≠q)(e:ltP p q=false):ltP q p=true:=by
 unfold ltP at e⊢
 by_cases h1:p.1=q.1
 ·rw[if_pos h1] at e
  rw[if_pos h1.symm]
  have h2:p.2≠q.2:=λz=>h (Prod.ext h1 z)
  rw[if_neg h2] at e
  rw[if_neg (Ne.symm h2)]
  exact zc0 h2 e
 ·rw[if_neg h1] at e
  rw[if_neg (Ne.symm h1)]
  exact zc0 h1 e
theorem zm1{p q r:Str×Str}(h1:ltP p q=true)(h2:ltP q r=true):ltP p r=true:=by
 unfold ltP at h1 h2⊢
 by_cases e1:p.1=q.1
 ·rw[if_pos e1] at h1
  by_cases e2:q.1=r.1
  ·rw[if_pos e2] at h2
   rw[if_pos (e1.trans e2)]
   by_cases f1:p.2=q.2
   ·rw[if_pos f1] at h1;cases h1
   ·by_cases f2:q.2=r.2
    ·rw[if_pos f2] at h2;cases h2
    ·rw[if_neg f1] at h1
     rw[if_neg f2] at h2
     have:=zfz h1 h2
     rw[if_neg (zjc this)];exact this
  ·rw[if_neg e2] at h2
   rw[if_neg (by rw[e1];exact e2),e1];exact h2
 ·rw[if_neg e1] at h1
  by_cases e2:q.1=r.1
  ·rw[if_neg (by rw[←e2];exact e1),←e2];exact h1
  ·rw[if_neg e2] at h2
   have:=zfz h1 h2
   rw[if_neg (zjc this)];exact this
theorem zhk(p:Str×Str):ltP p p=false:=by unfold ltP;rw[if_pos rfl,if_pos rfl]
theorem zn3{p q:Str×Str}(h:ltP p q=true):ltP q p=false:=by
 cases e:ltP q p with
 |false=>rfl
 |true=>have:=zm1 h e;rw[zhk] at this;cases this
theorem zfb:∀(l:List Str),sortedS l=true->l.Nodup->l.Pairwise (λa b=>ltS a b=true)
 |[],_,_=> .nil
 |[x],_,_=>by simp
 |x::y::r,h,hn=>by
  have h':(!ltCps y.cps.toList x.cps.toList&&risingS y r)=true:=h
  rw[Bool.and_eq_true] at h'
  have hr:sortedS (y::r)=true:=h'.2
  have ih:=zfb (y::r) hr (List.nodup_cons.mp hn).2
  have hxy:ltS x y=true:=by
   have h1:ltS y x=false:=by
    have:=h'.1
    rw[ltCps_eq] at this
    simpa using this
   exact zc0 (λz=>(List.nodup_cons.mp hn).1 (by rw[z];exact List.mem_cons_self)) h1
  refine List.pairwise_cons.mpr ⟨λz hz=>?_,ih⟩
  rcases List.mem_cons.mp hz with rfl|hz
  ·exact hxy
  ·exact zfz hxy ((List.pairwise_cons.mp ih).1 z hz)
section
variable{X:Cx}
theorem zg4:CallR X (.builtin "sorted") (λxs H Q=>∃(p:Addr) (ss:List Str),xs=[.ref p]/\SqL X.K H p (ss.map V.str)/\ss.length<64/\ss.Nodup/\∀(ss':List Str) l,ss'.Perm ss->ss'.Pairwise (λa b=>ltS a b=true)->H l=none->Q (.ref l) (upd H l (.lst (ss'.map V.str)))):=by
 intro pins s σ H xs us Q I r h
 obtain⟨p,ss,rfl,hq,h64,hnd,q⟩:=h
 obtain⟨u,rfl,ru⟩:=zc8 r
 cases ru
 obtain⟨its,rv,pl,hz⟩:=I.list hq
 have hS:=za9 rv
 have hl:=rv.length
 rw[List.length_map] at hl
 refine sorted_strs pl.isList hS (by omega) λout ss' a1 a2 a3=>?_
 have nl:H (s.heap.objs.size+1)=none:=I.hok.fresh (Nat.le_succ _)
 obtain⟨e,he⟩:=sortedAll_at s.heap its out
 have hn':ss'.Nodup:=a2.nodup_iff.mpr hnd
 refine⟨.ref _,_,I.laid (a:=s.heap.objs.size+1) (o:= .lst (ss'.map V.str)) (t':=s.toks) (λb o hb=>sortedAll_old hb) (Nat.le_succ _) ⟨?_,out.toList,e,?_,?_⟩,rfl,q ss' _ a2 (zfb ss' a3 hn') nl⟩
 ·rw[List.length_map,a2.length_eq];exact Nat.le_of_lt (zp (by omega))
 ·have mk:∀{vs:List Value} {zs:List Str},StrsAre vs zs->Vals (zs.map V.str) vs:=by
   intro vs zs h
   induction h with
   |nil=>exact .nil
   |cons x t _ ih=>exact .cons ⟨t,rfl⟩ ih
  exact mk a1
 ·rw[Array.toArray_toList];exact he
def zow(H:Hp)(vs:List V)(ps:List (Str×Str)):Prop:=vs.length=ps.length/\∀(i:Nat) (v:V) (p:Str×Str),vs[i]?=some v->ps[i]?=some p->∃b,v= .ref b/\H b=some (.tup [.str p.1, .str p.2])
noncomputable def zf4(p:Str×Str):List Key:=[.inr p.1, .inr p.2]
def TupAt(h:Heap)(u:Value)(p:Str×Str):Prop:=∃b o n t1 t2,u= .ref b/\h.get? b=some o/\o.cls= .type "tuple"/\o.data= .seq #[.str p.1 t1, .str p.2 t2] n
theorem TupAt.keeps{h h':Heap}{u:Value}{p:Str×Str}(x:TupAt h u p)(k:∀b o,h.get? b=some o->h'.get? b=some o):TupAt h' u p:=let⟨b,o,n,t1,t2,e,g,r⟩:=x;⟨b,o,n,t1,t2,e,k _ _ g,r⟩
theorem zlr{prog:Program}{w:World}{A:Around}{E:Value->Shared->Prop}{s:Shared}{u v:Value}{p q:Str×Str}{C:Bool->Shared->Prop}(x:TupAt s.heap u p)(y:TupAt s.heap v q)(h:C (ltP p q) s):wpAny (model prog w) A (keyLt' (tuples' true) u v) C E s:=by
 obtain⟨b,o,n,t1,t2,rfl,g,_,d⟩:=x
 obtain⟨b',o',n',t3,t4,rfl,g',_,d'⟩:=y
 refine kat_lt g d g' d' ?_
 show KatLex prog w A true (decide (2<2)) C [(.str p.1 t1, .str q.1 t3),(.str p.2 t2, .str q.2 t4)] 0 s
 unfold ltP at h
 refine kat_cons (wpAny_eqBool_str ?_)
 by_cases e1:p.1=q.1
 ·rw[if_pos e1] at h
  rw[decide_eq_true e1]
  refine kat_yes (kat_cons (wpAny_eqBool_str ?_))
  by_cases e2:p.2=q.2
  ·rw[if_pos e2] at h
   rw[decide_eq_true e2]
   exact kat_yes (kat_nil h)
  ·rw[if_neg e2] at h
   rw[decide_eq_false e2]
   refine kat_no ?_
   show wpAny (model prog w) A (oneLt' false (.str p.2 t2) (.str q.2 t4)) C _ s
   exact kat_one _ _ (lt_str h)
 ·rw[if_neg e1] at h
  rw[decide_eq_false e1]
  refine kat_no ?_
  show wpAny (model prog w) A (oneLt' true (.str p.1 t1) (.str q.1 t3)) C _ s
  exact oneLt_str h
theorem zko{h:Heap}:∀{us:List Value} {ps:List (Str×Str)},us.length=ps.length->(∀(i:Nat) (u:Value) (p:Str×Str),us[i]?=some u->ps[i]?=some p->TupAt h u p)->∃fs,KatTups h us fs/\fs.length=us.length/\∀f∈fs,∃x t,f=Value.str x t
 |[],[],_,_=>⟨[],trivial,rfl,λ_ z=>nomatch z⟩
 |[],_::_,z,_=>by simp at z
 |_::_,[],z,_=>by simp at z
 |u::us,p::ps,hl,hx=>by
  obtain⟨fs,h1,h2,h3⟩:=zko (us:=us) (ps:=ps) (by simpa using hl) λi u p e1 e2=>hx (i+1) u p (by simpa using e1) (by simpa using e2)
  obtain⟨b,o,n,t1,t2,rfl,g,c,d⟩:=hx 0 u p rfl rfl
  refine⟨.str p.1 t1::fs,KatTups.cons g c d rfl h1,by simp[h2],λf hf=>?_⟩
  rcases List.mem_cons.mp hf with rfl|hf
  ·exact ⟨_,_,rfl⟩
  ·exact h3 f hf
noncomputable def pAt(ps:List (Str×Str))(i:Nat):Str×Str:=ps.getD i (⟨#[]⟩,⟨#[]⟩)
theorem zhe{ps:List (Str×Str)}(hn:ps.Nodup):RW.Strict ps.length (λi j=>ltP (pAt ps i) (pAt ps j)) where
 tot:=λi j hi hj hij e=>znc (λz=>hij ((List.getElem_inj hn (h₀:=hi) (h₁:=hj)).mp (by unfold pAt at z;simpa[hi,hj] using z))) e
 tr:=λi j k _ _ _ h1 h2=>zm1 h1 h2
 asy:=λi j _ _ h=>zn3 h
theorem zk4{ps:List (Str×Str)}{p:Array Nat}(hp:RW.PermN ps.length p)(hs:RW.Sor (λi j=>ltP (pAt ps i) (pAt ps j)) p ps.length):(p.toList.map (pAt ps)).Perm ps/\(p.toList.map (pAt ps)).Pairwise (λa b=>ltP a b=true):=by
 constructor
 ·have h1:=hp.map (pAt ps)
  have h2:(List.range ps.length).map (pAt ps)=ps:=by
   apply List.ext_getElem?
   intro i
   rw[List.getElem?_map]
   rcases Nat.lt_or_ge i ps.length with h|h
   ·rw[List.getElem?_range h]
    show some (pAt ps i)=_
    unfold pAt
    simp[h]
   ·rw[List.getElem?_eq_none (by simpa using h),List.getElem?_eq_none h];rfl
  rwa[h2] at h1
 ·have hz:=hp.size
  rw[List.pairwise_iff_getElem]
  intro i j hi hj hij
  have hi':i<p.size:=by simpa using hi
  have hj':j<p.size:=by simpa using hj
  have h:=hs i j hij (by omega)
  rw[RW.gd_get hi',RW.gd_get hj'] at h
  simpa using h
theorem zdN{α β:Type}{R:α->β->Prop}:∀{as:List α} {bs:List β},Paired R as bs->as.length=bs.length/\∀(i:Nat) (a:α) (b:β),as[i]?=some a->bs[i]?=some b->R a b
 |_,_, .nil=>⟨rfl,λi a b e=>by simp at e⟩
 |_,_, .cons h t=>by
  obtain⟨h1,h2⟩:=zdN t
  refine⟨by simp[h1],λi a b e1 e2=>?_⟩
  cases i with
  |zero=>simp at e1 e2;subst e1;subst e2;exact h
  |succ i=>exact h2 i a b (by simpa using e1) (by simpa using e2)
theorem zg3(hc:X.calm=true):CallR X (.builtin "sorted") (λxs H Q=>∃(d:Addr) (kvs:List (List Key×V)) (ps:List (Str×Str)),xs=[.ref d]/\H d=some (.dT kvs)/\kvs.map (·.1)=ps.map zf4/\ps.length<64/\
 ∀(ps':List (Str×Str)) (vs:List V) l,ps'.Perm ps->ps'.Pairwise (λa b=>ltP a b=true)->zow H vs ps'->H l=none->Q (.ref l) (upd H l (.lst vs))):=by
 intro pins s σ H xs us Q I r h
 obtain⟨d,kvs,ps,rfl,hd,hk,h64,q⟩:=h
 obtain⟨u,rfl,ru⟩:=zc8 r
 cases ru
 obtain⟨_,nsys,zs,hp,o,es,ep,g,ex,dat,hes,hnd⟩:=(show ObjOk X.prog X.w H s.heap d (.dT kvs)from I.hok d _ hd)
 obtain⟨hl,hget⟩:=zdN hp
 have hlk:kvs.length=ps.length:=by have:=congrArg List.length hk;simpa using this
 have hnp:ps.Nodup:=by
  have e:zs.map (·.1)=kvs.map (·.1):=by
   apply List.ext_getElem?
   intro i
   rw[List.getElem?_map,List.getElem?_map]
   rcases Nat.lt_or_ge i kvs.length with h|h
   ·have h':i<zs.length:=by omega
    have:=(hget i kvs[i] zs[i] (by simp[h]) (by simp[h'])).1
    simp[h,h',this]
   ·rw[List.getElem?_eq_none h,List.getElem?_eq_none (by omega)];rfl
  rw[e,hk] at hnd
  exact(List.pairwise_map.mp hnd).imp λh z=>h (by rw[z])
 have kz:(zs.map λq=>Value.ref q.2.1).length=ps.length:=by rw[List.length_map];omega
 have raw:RawD s.heap d (zs.map λq=>Value.ref q.2.1) ep:=⟨o,es,g,ex,dat,by rw[hes,List.map_map];rfl⟩
 have keyA:∀i (h:i<ps.length),∃b,(zs.map λq=>Value.ref q.2.1)[i]?=some (.ref b)/\H b=some (.tup [.str ps[i].1, .str ps[i].2]):=λi h=>by
  have h1:i<kvs.length:=by omega
  have h2:i<zs.length:=by omega
  have hr:=hget i kvs[i] zs[i] (by simp[h1]) (by simp[h2])
  refine⟨zs[i].2.1,by simp[h2],?_⟩
  have ek:kvs[i].1=zf4 ps[i]:=by
   have e1:(kvs.map (·.1))[i]?=some kvs[i].1:=by simp[h1]
   rw[hk] at e1
   have e2:(ps.map zf4)[i]?=some (zf4 ps[i]):=by simp[h]
   rw[e1] at e2
   exact Option.some.inj e2
  rw[hr.2.1,ek]
  rfl
 have keyT:∀(i:Nat) (u:Value) (p:Str×Str),(zs.map λq=>Value.ref q.2.1)[i]?=some u->ps[i]?=some p->TupAt s.heap u p:=λi u p e1 e2=>by
  have hi:i<ps.length:=by
   rcases Nat.lt_or_ge i ps.length with z|z
   ·exact z
   ·rw[List.getElem?_eq_none z] at e2;cases e2
  obtain⟨b,f1,f2⟩:=keyA i hi
  rw[f1] at e1
  cases e1
  have ep':ps[i]=p:=by simpa[hi] using e2
  rw[ep'] at f2
  obtain⟨_,its,rv,⟨o',g',c',n',d'⟩,_⟩:=(show ObjOk X.prog X.w H s.heap b (.tup [.str p.1, .str p.2])from I.hok b _ f2)
  cases rv with
  |cons r1 rv=>cases rv with
   |cons r2 rv=>cases rv with
    |nil=>
     obtain⟨t1,rfl⟩:=r1
     obtain⟨t2,rfl⟩:=r2
     exact⟨b,o',n',t1,t2,rfl,g',c',d'⟩
 generalize hks:(zs.map λq=>Value.ref q.2.1)=ks at *
 refine zjK (A:=X.A) (G:=λp=>RW.PermN ps.length p/\RW.Sor (λi j=>ltP (pAt ps i) (pAt ps j)) p ps.length) (κ:=tuples' true) (zkk (ks:=ks) (ep:=ep) nsys) (I.ok.hd hc) raw (by omega) (λh2 s1 k1=>?_) (λD out h' tk c ho kp hD gD=>?_)
 ·have keyT1:∀(i:Nat) (u:Value) (p:Str×Str),ks[i]?=some u->ps[i]?=some p->TupAt s1.heap u p:=λi u p e1 e2=>(keyT i u p e1 e2).keeps k1
  obtain⟨fs,ft,fl,fa⟩:=zko kz keyT1
  refine⟨λC hC=>kat_kind (T:= .type "str") ft (by omega) (λf hf=>?_) rfl hC,?_⟩
  ·obtain ⟨x,t,rfl⟩:=fa f hf
   exact Looks.of_pure rfl
  ·rw[kz]
   refine RW.OkT.wp (N:=ps.length) (lt:=λi j=>ltP (pAt ps i) (pAt ps j)) (I:=λs'=>s'=s1) (λi j C s' hi hj e hC=>?_) (λp s' hp e=>⟨e,hp⟩) rfl (RW.sort_ok (zhe hnp) (by omega))
   subst e
   have gi:∀i,i<ps.length->TupAt s'.heap (ks.getD i Value.none) (pAt ps i):=λi hi=>by
    have hi':i<ks.length:=by omega
    refine keyT1 i _ _ ?_ ?_
    ·simp[hi']
    ·unfold pAt;simp[hi]
   exact zlr (gi i hi) (gi j hj) (hC s' rfl)
 ·
  have nD:H D=none:=I.hok.fresh hD
  obtain⟨ps',hperm,hpw,hout⟩:∃ps':List (Str×Str),ps'.Perm ps/\ps'.Pairwise (λa b=>ltP a b=true)/\out.length=ps'.length/\∀(i:Nat) (u:Value) (p:Str×Str),out[i]?=some u->ps'[i]?=some p->∃b,u= .ref b/\H b=some (.tup [.str p.1, .str p.2]):=by
   rcases ho with⟨hlt,rfl⟩|⟨p,hp,⟨hP,hS⟩,rfl⟩
   ·refine ⟨ps, .refl _,?_,kz,λi u p e1 e2=>?_⟩
    ·match ps,(show ps.length<2 by omega)with
     |[],_=>exact .nil
     |[x],_=>exact List.pairwise_singleton _ _
    ·have hi:i<ps.length:=by
      rcases Nat.lt_or_ge i ps.length with z|z
      ·exact z
      ·rw[List.getElem?_eq_none z] at e2;cases e2
     obtain⟨b,f1,f2⟩:=keyA i hi
     rw[f1] at e1;cases e1
     have ep':ps[i]=p:=by simpa[hi] using e2
     rw[ep'] at f2
     exact⟨b,rfl,f2⟩
   ·obtain ⟨o1,o2⟩:=zk4 hP hS
    refine⟨p.toList.map (pAt ps),o1,o2,by rw[List.length_map,List.length_map],λi u q e1 e2=>?_⟩
    rw[List.getElem?_map] at e1 e2
    cases hpi:p.toList[i]? with
    |none=>rw[hpi] at e1;cases e1
    |some j=>
     rw[hpi] at e1 e2
     have hj:j<ps.length:=List.mem_range.mp (hP.mem_iff.mp (List.mem_of_getElem? hpi))
     obtain⟨b,f1,f2⟩:=keyA j hj
     have hj':j<ks.length:=by omega
     have eu:ks.getD j Value.none= .ref b:=by
      rw[List.getD_eq_getElem?_getD,f1];rfl
     have e1':some (ks.getD j Value.none)=some u:=e1
     rw[eu] at e1'
     have e2':some (pAt ps j)=some q:=e2
     have eq:pAt ps j=ps[j]:=by unfold pAt;simp[hj]
     rw[eq] at e2'
     cases e1'
     cases e2'
     exact⟨b,rfl,f2⟩
  obtain⟨hol,hog⟩:=hout
  have hall:∀u∈out,∃b,u=Value.ref b:=λu hu=>by
   obtain⟨i,hi,rfl⟩:=List.getElem_of_mem hu
   obtain⟨b,e,_⟩:=hog i out[i] (ps'[i]'(by omega)) (by simp[hi]) (by simp[show i<ps'.length by omega])
   exact⟨b,e⟩
  obtain⟨vs,rvs⟩:∃vs:List V,Vals vs out/\∀(i:Nat) (b:Addr),out[i]?=some (.ref b)->vs[i]?=some (.ref b):=by
   clear hog hol gD ho
   induction out with
   |nil=>exact ⟨[], .nil,λi b e=>by simp at e⟩
   |cons u out ih=>
    obtain⟨vs,h1,h2⟩:=ih λu hu=>hall u (List.mem_cons_of_mem _ hu)
    obtain⟨b,rfl⟩:=hall u List.mem_cons_self
    refine⟨.ref b::vs, .cons rfl h1,λi b' e=>?_⟩
    cases i with
    |zero=>simpa using e
    |succ i=>exact h2 i b' (by simpa using e)
  have lv:vs.length=out.length:=rvs.1.length
  refine⟨.ref D,_,I.laid (a:=D) (o:= .lst vs) (t':=tk) kp hD ⟨by rw[lv,hol,hperm.length_eq];exact Nat.le_of_lt (zp (by omega)),out,c,rvs.1,gD⟩,rfl,q ps' vs D hperm hpw ⟨by omega,λi v p e1 e2=>?_⟩ nD⟩
  have hi:i<out.length:=by
   rcases Nat.lt_or_ge i out.length with z|z
   ·exact z
   ·rw[List.getElem?_eq_none (by omega)] at e1;cases e1
  obtain⟨b,f1,f2⟩:=hog i out[i] p (by simp[hi]) e2
  have:=rvs.2 i b (by rw[←f1];simp[hi])
  rw[this] at e1
  cases e1
  exact⟨b,rfl,f2⟩
end
noncomputable def zir(a c:Str)(t u:Tok)(i:Nat):Value:=if i=0 then .str a t else .str c u
section
variable{prog:Program}{w:World}{A:Around}{E:Value->Shared->Prop}{s:Shared}
theorem zha{a c:Str}{t u:Tok}{i:Nat}{v:Value}(h:(#[Value.str a t,Value.str c u])[i]?=some v):(i=0/\v= .str a t)\/(i=1/\v= .str c u):=by
 match i,h with
 |0,h=>exact .inl ⟨rfl,by simpa using h.symm⟩
 |1,h=>exact .inr ⟨rfl,by simpa using h.symm⟩
 |i+2,h=>simp at h
theorem zhC{a c:Str}{t u:Tok}{R:Value->Shared->Prop}(hh:A.handled=none)(q:∀h' tk,(∀b o,s.heap.get? b=some o->h'.get? b=some o)->R (if ltS a c=true then .str c u else .str a t) {s with heap:=h',toks:=tk}):
 wpAny (model prog w) A (call (.builtin "max") [.str a t, .str c u]) R E s:=by
 have hT:(s.heap.push {cls:= .type "tuple",data:= .seq #[.str a t, .str c u]}).IsTuple s.heap.objs.size #[.str a t, .str c u]:=⟨_,Heap.get?_push_size _ rfl,rfl,0,rfl⟩
 have z:(s.heap.push {cls:= .type "tuple",data:= .seq #[.str a t, .str c u]}).objs.size=s.heap.objs.size+1:=Heap.size_push ..
 refine call_max_two (wpAny_pyIter_tuple hT ?_)
 refine⟨_,[_,s.heap.objs.size],[_],_,_,_,λi j=>ltS (strOf (zir a c t u j)) (strOf (zir a c t u i)),rfl,Walks.tuple (A:=A.in1) hh _ s.heap.objs.size (by rw[z];exact Nat.ne_of_lt (Nat.lt_succ_self _)) #[.str a t, .str c u],⟨⟨_,Heap.get?_push_size _ rfl,rfl,rfl⟩,hT.push _⟩,λb hb=>?_,(by decide:0<2),?_,λv h' tk hP hk=>?_⟩
 ·show b<((s.heap.push _).push _).objs.size
  rw[Heap.size_push,z]
  rcases List.mem_cons.mp hb with rfl|hb
  ·rw[z];exact Nat.lt_succ_self _
  ·rcases List.mem_cons.mp hb with rfl|hb
   ·exact Nat.lt_succ_of_lt (Nat.lt_succ_self _)
   ·cases hb
 ·intro i j vi vj s' R' E' hi hj hq
  rcases zha hi with⟨rfl,rfl⟩|⟨rfl,rfl⟩<;>rcases zha hj with⟨rfl,rfl⟩|⟨rfl,rfl⟩<;>exact (PySem.P.gt_str hq:wpAny (model prog w) A.in1 (compareOp .Gt _ _) R' E' s')
 ·have keep:∀b o,s.heap.get? b=some o->h'.get? b=some o:=λb o e=>hk b o (λhm=>by
   rcases List.mem_cons.mp hm with e1|hm
   ·have lb:=Heap.lt_size e
    rw[e1,z] at lb
    exact absurd lb (Nat.not_lt.mpr (Nat.le_succ _))
   ·cases hm) (Heap.get?_push_of_some _ (Heap.get?_push_of_some _ e))
  have fin:=q h' tk keep
  have eb:argBest (λi j=>ltS (strOf (zir a c t u j)) (strOf (zir a c t u i))) (2 -1)=if ltS a c=true then 1 else 0:=rfl
  have hP':(#[Value.str a t,Value.str c u])[if ltS a c=true then 1 else 0]?=some v:=hP
  by_cases hc:ltS a c=true
  ·rw[if_pos hc] at hP' fin
   have ev:Value.str c u=v:=by simpa using hP'
   rw[←ev];exact fin
  ·rw[if_neg hc] at hP' fin
   have ev:Value.str a t=v:=by simpa using hP'
   rw[←ev];exact fin
theorem zhx{a c:Str}{t u:Tok}{R:Value->Shared->Prop}(hh:A.handled=none)(q:∀h' tk,(∀b o,s.heap.get? b=some o->h'.get? b=some o)->R (if ltS c a=true then .str c u else .str a t) {s with heap:=h',toks:=tk}):
 wpAny (model prog w) A (call (.builtin "min") [.str a t, .str c u]) R E s:=by
 have hT:(s.heap.push {cls:= .type "tuple",data:= .seq #[.str a t, .str c u]}).IsTuple s.heap.objs.size #[.str a t, .str c u]:=⟨_,Heap.get?_push_size _ rfl,rfl,0,rfl⟩
 have z:(s.heap.push {cls:= .type "tuple",data:= .seq #[.str a t, .str c u]}).objs.size=s.heap.objs.size+1:=Heap.size_push ..
 refine call_min_two (wpAny_pyIter_tuple hT ?_)
 refine⟨_,[_,s.heap.objs.size],[_],_,_,_,λi j=>ltS (strOf (zir a c t u i)) (strOf (zir a c t u j)),rfl,Walks.tuple (A:=A.in1) hh _ s.heap.objs.size (by rw[z];exact Nat.ne_of_lt (Nat.lt_succ_self _)) #[.str a t, .str c u],⟨⟨_,Heap.get?_push_size _ rfl,rfl,rfl⟩,hT.push _⟩,λb hb=>?_,(by decide:0<2),?_,λv h' tk hP hk=>?_⟩
 ·show b<((s.heap.push _).push _).objs.size
  rw[Heap.size_push,z]
  rcases List.mem_cons.mp hb with rfl|hb
  ·rw[z];exact Nat.lt_succ_self _
  ·rcases List.mem_cons.mp hb with rfl|hb
   ·exact Nat.lt_succ_of_lt (Nat.lt_succ_self _)
   ·cases hb
 ·intro i j vi vj s' R' E' hi hj hq
  rcases zha hi with⟨rfl,rfl⟩|⟨rfl,rfl⟩<;>rcases zha hj with⟨rfl,rfl⟩|⟨rfl,rfl⟩<;>exact (lt_str hq:wpAny (model prog w) A.in1 (compareOp .Lt _ _) R' E' s')
 ·have keep:∀b o,s.heap.get? b=some o->h'.get? b=some o:=λb o e=>hk b o (λhm=>by
   rcases List.mem_cons.mp hm with e1|hm
   ·have lb:=Heap.lt_size e
    rw[e1,z] at lb
    exact absurd lb (Nat.not_lt.mpr (Nat.le_succ _))
   ·cases hm) (Heap.get?_push_of_some _ (Heap.get?_push_of_some _ e))
  have fin:=q h' tk keep
  have eb:argBest (λi j=>ltS (strOf (zir a c t u i)) (strOf (zir a c t u j))) (2 -1)=if ltS c a=true then 1 else 0:=rfl
  have hP':(#[Value.str a t,Value.str c u])[if ltS c a=true then 1 else 0]?=some v:=hP
  by_cases hc:ltS c a=true
  ·rw[if_pos hc] at hP' fin
   have ev:Value.str c u=v:=by simpa using hP'
   rw[←ev];exact fin
  ·rw[if_neg hc] at hP' fin
   have ev:Value.str a t=v:=by simpa using hP'
   rw[←ev];exact fin
end
section
variable{X:Cx}
theorem zfg(hc:X.calm=true):CallR X (.builtin "max") (λxs H Q=>∃a c,xs=[.str a, .str c]/\Q (.str (if ltS a c=true then c else a)) H):=by
 intro pins s σ H xs us Q I r h
 obtain⟨i,j,rfl,q⟩:=h
 obtain⟨u,w',rfl,⟨t,rfl⟩,⟨t',rfl⟩⟩:=zgN r
 refine zhC (I.ok.hd hc) λh' tk k=>⟨_,H,I.kept k,?_,q⟩
 by_cases hj:ltS i j=true
 ·rw[if_pos hj,if_pos hj];exact⟨_,rfl⟩
 ·rw[if_neg hj,if_neg hj];exact⟨_,rfl⟩
theorem zfV(hc:X.calm=true):CallR X (.builtin "min") (λxs H Q=>∃a c,xs=[.str a, .str c]/\Q (.str (if ltS c a=true then c else a)) H):=by
 intro pins s σ H xs us Q I r h
 obtain⟨i,j,rfl,q⟩:=h
 obtain⟨u,w',rfl,⟨t,rfl⟩,⟨t',rfl⟩⟩:=zgN r
 refine zhx (I.ok.hd hc) λh' tk k=>⟨_,H,I.kept k,?_,q⟩
 by_cases hj:ltS j i=true
 ·rw[if_pos hj,if_pos hj];exact⟨_,rfl⟩
 ·rw[if_neg hj,if_neg hj];exact⟨_,rfl⟩
end
section
open PySem.SeqAt
open PySem.AutoSeq1 (wpAny_loadPart')
open PySem.MeetsSeq PySem.MeetsSeq2 PySem.MeetsSeq3
end
section
variable{X:Cx}{K:PySem.W.Frag}
noncomputable def zo0(K:PySem.W.Frag):R2:=λx y H Q=>∃a b xs ys,x= .ref a/\y= .ref b/\SqT K H a xs/\SqT K H b ys/\xs.length+ys.length<=sizeLine/\
 (xs=[]->Q (.ref b) H)/\(xs≠ []->ys=[]->Q (.ref a) H)/\(xs≠ []->ys≠ []->∀p,H p=none->Q (.ref p) (upd H p (.tup (xs ++ys))))
theorem zb9:OpR X (binaryOp .Add) (zo0 X.K):=by
 intro pins s σ H x y v u Q I rx ry h
 obtain⟨a,b,xs,ys,rfl,rfl,ha,hb,hz,q0,q1,q2⟩:=h
 by_cases hx:xs=[]
 ·cases rx
  cases ry
  obtain⟨its,r1,p1,_⟩:=I.tuple ha
  obtain⟨its2,r2,p2,_⟩:=I.tuple hb
  have e1:its=[]:=r1.nil_iff.mpr hx
  obtain⟨⟨cls,dd,data,sl⟩,ho,hc,n,hd⟩:=id p1
  obtain⟨⟨cls2,dd2,data2,sl2⟩,ho2,hc2,n2,hd2⟩:=id p2
  simp only at hc hd hc2 hd2
  subst hc hd hc2 hd2
  exact concat_meets ⟨_,ho,rfl⟩ ⟨_,ho2,rfl⟩ noFill_tuple_add seq_tuple_add PySem.F.slot_tuple_add PySem.F.entry_tuple_add (PySem.F.args_tuple_add_2 _ _) (tuple_addW0 a b its.toArray its2.toArray n n2 dd dd2 sl sl2 (by simp[e1])) ⟨ho,ho2,⟨.ref b,H,I,rfl,q0 hx⟩⟩
 ·exact zn7 pins s σ H _ _ v u Q I rx ry ⟨a,b,xs,ys,rfl,rfl,ha,hb,hx,hz,q1 hx,q2 hx⟩
end
section
open PySem.AutoSeq1 (wpAny_loadPart')
end
section
variable{X:Cx}{K:PySem.W.Frag}
theorem hu1{k:Nat}{A:Around}(r:Room k A):A.units+1<cLine:=by have:=r.units;omega
end
section
variable{X:Cx}{a b o i value:Expr}{x y:Str}{px py pt pt2 pos pos':Pos}{kt k2:Nat}{ta:TA}{td ty tv:TE}
theorem zoT(m n:Nat)(hN:X.N.Nodup)(ha:QA X [a,b] ta)(hc:X.calm=true:=by rfl)(hi:X.N[m]?=some x:=by rfl)(hj:X.N[n]?=some y:=by rfl)(hij:m≠n:=by decide)
 (hx:X.env.scope.names.lookup x=some .local:=by rfl) (hy:X.env.scope.names.lookup y=some .local:=by rfl)
 (hw:swappedStores [.Tuple [.Name x px, .Name y py] kt pt] (.Tuple [a,b] k2 pt2) X.env=pure (some [x,y]):=by rfl)
 (hs:swapsWithSole [.Tuple [.Name x px, .Name y py] kt pt] (.Tuple [a,b] k2 pt2) pos.line X.env=pure false:=by rfl):
 QS X (.Assign [.Tuple [.Name x px, .Name y py] kt pt] (.Tuple [a,b] k2 pt2) pos) (zqp m n ta):=⟨zps hc hN hi hj hij hx hy ha.o hw hs⟩
theorem zcm(hu:X.A.units+1<cLine)(ho:QE X o td)(hi:QE X i ty)(hv:QE X value tv)(hs:swapsWith value (some (.Subscript o i pos')) pos.line X.env=pure false:=by rfl):
 QS X (.Assign [.Subscript o i pos'] value pos) (zoI td ty tv):=⟨znG hu ho.o hi.o hv.o hs⟩
theorem znC:QE X (.Dict [] [] pos) zmZ:=⟨zm4⟩
end
end L2
namespace RW
open PySem PySem.Spec PyProof.Rows L2
noncomputable def ltD:D->D->Bool
 | .str x, .str y=>ltS x y
 | .tup [.str a, .str b], .tup [.str c, .str d]=>ltP (a,b) (c,d)
 |_,_=>false
noncomputable def znn(ds:List D):Bool:=(List.range (ds.length -1)).all λk=>ltD (ds.getD k .non) (ds.getD (k+1) .non)
noncomputable def areHousesB:D->Bool| .tup ds=>decide (1<=ds.length)&&decide (ds.length<=10)&&ds.all zdy&&znn ds|_=>false
noncomputable def zbQ:D->Bool| .tup ds=>decide (ds.length<=90)&&ds.all zS|_=>false
noncomputable def zcb:D->Bool| .tup ds=>decide (ds.length<=90)&&ds.all zb6|_=>false
theorem zlc(z:Str)(n:Nat):(zfp z n).cps.toList=(List.replicate n z.cps.toList).flatten:=by
 unfold zfp
 have key:∀(k:Nat) (acc:Array Nat),((List.replicate k z.cps).foldl (·++·) acc).toList=acc.toList ++(List.replicate k z.cps.toList).flatten:=by
  intro k
  induction k with
  |zero=>intro acc;simp
  |succ k ih=>intro acc;rw[List.replicate_succ,List.foldl_cons,ih,List.replicate_succ,List.flatten_cons,Array.toList_append,List.append_assoc]
 have:=key n #[]
 simpa using this
theorem zcE(c n:Nat):(zfp (one c) n).cps.toList=List.replicate n c:=by
 rw[zlc]
 show(List.replicate n [c]).flatten=_
 induction n with
 |zero=>rfl
 |succ n ih=>rw[List.replicate_succ,List.flatten_cons,ih,List.replicate_succ];rfl
noncomputable def zjS(x:Str):Bool:=x.cps.toList.all λc=>some c==x.cps.toList.head?
theorem zhL(c n:Nat):zjS (zfp (one c) n)=true:=by
 unfold zjS
 rw[zcE]
 cases n with
 |zero=>rfl
 |succ n=>
  rw[List.all_eq_true]
  intro d hd
  rw[List.eq_of_mem_replicate hd]
  simp[List.replicate_succ]
noncomputable def keptL:List Str:=["goal","to","by","houses","tie","like","hand","keep","put","mark","long","from","strike"]
theorem znk:∀x∈keptL,zi x=true:=by decide +kernel
theorem zll:∀x∈keptL,zjS x=false:=by decide +kernel
theorem znV:∀c∈lettersS.cps.toList,∀k∈List.range 8,zi (zfp (one c) (k+1))=true:=by decide +kernel
theorem ziK:lettersS.length=26:=by decide +kernel
theorem zft:∀k∈List.range 26,lettersS.cps.toList[k]?=some (97+k):=by decide +kernel
theorem zj9(c:Nat):(one c).length=1:=rfl
noncomputable def zlE:List Nat:=[1,3,5,7,9,11]
theorem zlQ:∀f∈List.range 26,∀st∈zlE,((List.range 13).map λk=>(f+st*k)%26).Nodup:=by decide +kernel
noncomputable def nmS(f st k:Nat):Str:=zfp (one (97+(f+st*k)%26)) (1+(k*k+f)%8)
noncomputable def kwS(sp k:Nat):Str:=keptL.getD ((sp+3*k)%13) ""
noncomputable def zbq(f st sp j k:Nat):Str:=if k<j then kwS sp k else nmS f st k
theorem zpi:∀sp∈List.range 13,((List.range 4).map λk=>kwS sp k).Nodup:=by decide +kernel
theorem zi3(sp k:Nat):kwS sp k∈keptL:=by
 unfold kwS
 have h:(sp+3*k)%13<keptL.length:=Nat.mod_lt _ (by decide)
 simp[List.getD,h]
theorem zmx{α:Type}{l:List α}(h:l.Nodup){i j:Nat}(hi:i<l.length)(hj:j<l.length)(hij:i≠j):l[i]≠l[j]:=λz=>hij ((List.getElem_inj h).mp z)
theorem zhX{f st sp j m:Nat}(hf:f<26)(hst:st∈zlE)(hsp:sp<13)(hj:j<=4)(hm:m<=13):((List.range m).map (zbq f st sp j)).Nodup:=by
 have key:∀a b,a<b->b<13->zbq f st sp j a≠zbq f st sp j b:=by
  intro a b hab hb
  unfold zbq
  by_cases h1:a<j
  ·rw[if_pos h1]
   by_cases h2:b<j
   ·rw[if_pos h2]
    have:=zmx (zpi sp (List.mem_range.mpr hsp)) (i:=a) (j:=b) (by simp;omega) (by simp;omega) (by omega)
    simpa using this
   ·rw[if_neg h2]
    intro z
    have e1:=zll _ (zi3 sp a)
    rw[z] at e1
    unfold nmS at e1
    rw[zhL] at e1
    cases e1
  ·rw[if_neg h1,if_neg (by omega)]
   intro z
   have hh:(nmS f st a).cps.toList.head?=(nmS f st b).cps.toList.head?:=by rw[z]
   unfold nmS at hh
   rw[zcE,zcE,Nat.add_comm 1,Nat.add_comm 1,List.replicate_succ,List.replicate_succ] at hh
   simp only[List.head?_cons,Option.some.injEq] at hh
   have:=zmx (zlQ f (List.mem_range.mpr hf) st hst) (i:=a) (j:=b) (by simp;omega) (by simp;omega) (by omega)
   simp at this
   omega
 rw[List.nodup_iff_pairwise_ne,List.pairwise_map]
 refine List.Pairwise.imp_of_mem (λ{a b} ha hb hab=>?_) (List.pairwise_lt_range (n:=m))
 exact key a b hab (by have:=List.mem_range.mp hb;omega)
theorem zqA(f st k:Nat):zi (nmS f st k)=true:=by
 unfold nmS
 rw[Nat.add_comm 1]
 have hr:(f+st*k)%26<26:=Nat.mod_lt _ (by decide)
 exact znV _ (List.mem_of_getElem? (zft _ (List.mem_range.mpr hr))) _ (List.mem_range.mpr (Nat.mod_lt _ (by decide)))
theorem zoz(f st sp j k:Nat):zi (zbq f st sp j k)=true:=by
 unfold zbq
 split
 ·exact znk _ (zi3 sp k)
 ·exact zqA f st k
theorem zmU{f st sp j m:Nat}(hj:j<m):((List.range m).map (zbq f st sp j)).set j (kwS sp j)=(List.range m).map (zbq f st sp (j+1)):=by
 apply List.ext_getElem?
 intro i
 rw[List.getElem?_set]
 by_cases e:j=i
 ·subst e
  rw[if_pos rfl,if_pos (by simp;exact hj)]
  simp[hj,zbq]
 ·rw[if_neg e]
  rcases Nat.lt_or_ge i m with h|h
  ·rw[List.getElem?_map,List.getElem?_map,List.getElem?_range h]
   show some _=some _
   congr 1
   unfold zbq
   by_cases h1:i<j
   ·rw[if_pos h1,if_pos (by omega)]
   ·rw[if_neg h1,if_neg (by omega)]
  ·rw[List.getElem?_eq_none (by simpa using h),List.getElem?_eq_none (by simpa using h)]
theorem znF{sp k:Nat}:keptL[(sp+3*k)%13]?=some (kwS sp k):=by
 unfold kwS
 have h:(sp+3*k)%13<keptL.length:=Nat.mod_lt _ (by decide)
 simp[List.getD,h]
theorem zic{xs:List V}{m:Nat}:zcp xs (some (m:Int)) none=xs.drop m:=by
 unfold zcp
 have e1:HT.sIx xs.length xs.length none=xs.length:=rfl
 have e2:HT.sIx xs.length 0 (some (m:Int))=min m xs.length:=by
  unfold HT.sIx
  have h:¬(m:Int)<0:=by omega
  simp only[if_neg h,Int.toNat_natCast]
 rw[e1,e2]
 rcases Nat.lt_or_ge m xs.length with h|h
 ·rw[Nat.min_eq_left (by omega),List.take_of_length_le (by rw[List.length_drop];omega)]
 ·rw[Nat.min_eq_right h,List.drop_of_length_le (Nat.le_refl _),List.drop_of_length_le h];simp
theorem zeL{J:It}{N:Nat}{Pw:Nat->V->Prop}{ok:Hp->Prop}{a:Addr}{m c:Int}{Pd:Nat->D->Prop}{H:Hp}{te:TE}{src:List (Option Nat)}{σ σr:L2.St}{Q:VK}(wk:Wk J N Pw ok)(hok:∀H',Keep a H H'->ok H')(hs:zgg src σ=none::σr)(hH:Hand H a m)(hN:N<=900)(hc:0<=c)
 (he:∀(i:Nat) (x:V) (H1:Hp) (Q1:VK),i<N->Hand H1 a (m+c*i)->Keep a H H1->(∀v d H2,Rep H2 v d->Pd i d->Hand H2 a (m+c*i+c)->Keep a H1 H2->Q1 v H2)->te (some x::σr) H1 Q1)
 (q:∀l vs ds H',H l=none->H' l=some (.lst vs)->RepL H' vs ds->ds.length=N->(∀i d,ds[i]?=some d->Pd i d)->Hand H' a (m+c*N)->Keep a H H'->Q (.ref l) H'):zep (zcU 0) zof te src σ Q J H:=by
 refine zcz wk (λl i ys σ' H'=>(∃o,σ'=o::σr)/\(∃ds:List D,RepL H' ys ds/\ds.length=i/\∀j d,ds[j]?=some d->Pd j d)/\Hand H' a (m+c*i)/\Keep a H H') ?_ (λ_ _ _ _ _ _ p=>hok _ p.2.2.2) ?_ ?_
 ·exact λl hl=>⟨⟨_,hs⟩,⟨[],RepL.nil,rfl,λj d z=>by simp at z⟩,(hH.new hl).mono (by simp),Keep.new hl⟩
 ·rintro l i y ys σ' H1 hl hi hy ⟨⟨o,rfl⟩,⟨ds,hr,hl2,hp⟩,hH1,k1⟩ hl'
  have nl:=hH.ne hl
  refine he i y H1 _ hi hH1 k1 λv d H2 rv pd hH2 k2=>?_
  have hl2':H2 l=some (.lst ys):=k2 _ _ nl hl'
  have m2:Mono H1 H2:=Mono.keep k2 hH1 hH2
  have m3:Mono H2 (upd H2 l (.lst (ys ++ [v]))):=Mono.lset hl2'
  refine⟨hl2',?_,⟨_,rfl⟩,⟨ds ++ [d],((hr.mono m2).append (.cons rv .nil)).mono m3,?_,?_⟩,(hH2.updNe nl).mono ?_,(k1.trans k2).updNew hl⟩
  ·have:=hr.1
   exact zp (by omega)
  ·rw[List.length_append,hl2];rfl
  ·intro j e he
   by_cases hj:j<ds.length
   ·rw[List.getElem?_append_left hj] at he
    exact hp j e he
   ·rw[List.getElem?_append_right (by omega)] at he
    have hj2:j=ds.length:=by
     rcases Nat.lt_or_ge ds.length j with z|z
     ·rw[List.getElem?_eq_none (by simp;omega)] at he;cases he
     ·omega
    subst hj2
    simp at he
    subst he
    rw[hl2];exact pd
  ·rw[show((i+1:Nat):Int)=(i:Int)+1 by omega,Int.mul_add,Int.mul_one]
   omega
 ·rintro l ys σ' H1 hl ⟨⟨o,rfl⟩,⟨ds,hr,hl2,hp⟩,hH1,k1⟩ hl'
  exact q l ys ds H1 hl hl' hr hl2 hp hH1 k1
noncomputable def pairD(p:Str×Str):D:= .tup [.str p.1, .str p.2]
structure TownOk(g:Str)(hs:List Str)(ps:List (Str×Str))(lks hds:List D):Prop where
 rise:hs.Pairwise (λa b=>ltS a b=true)
 one:1<=hs.length
 ten:hs.length<=10
 names:∀x∈hs,zi x=true
 goal:g∈hs
 riseP:ps.Pairwise (λa b=>ltP a b=true)
 ties:∀p∈ps,p.1∈hs/\p.2∈hs/\ltS p.1 p.2=true
 ll:lks.length=hs.length
 lh:hds.length=hs.length
 likes:∀d∈lks,zbQ d=true
 hands:∀d∈hds,zcb d=true
noncomputable def zaf(g:Str)(hs:List Str)(ps:List (Str×Str))(lks hds:List D):D:= .tup [.str g, .tup (hs.map D.str), .tup (ps.map pairD), .tup lks, .tup hds]
section
variable{te tf:TE}{ta:TA}{tb:TS}{De:Ends}{σ:L2.St}{H:Hp}{d:D}{ds es:List D}{K:PySem.W.Frag}{k:Nat}
end
section
variable{te tf:TE}{σ:L2.St}{H:Hp}{d:D}{ds es:List D}{K:PySem.W.Frag}
theorem zkg{J:It}{vs:List V}{f:D->D}{g:D->Bool}{ok:Hp->Prop}{tc:TT}{src:List (Option Nat)}{σr:L2.St}{Q:VK}(wk:Wk J vs.length (λi x=>vs[i]?=some x) ok)(hok:∀H',Same H H'->ok H')(r:RepL H vs ds)(hl:ds.length<=900)(e:zgg src σ=none::σr)
 (hc:∀(x:V) (d:D) (H1:Hp) (Q1:Bool->Hp->Prop),Same H H1->Rep H1 x d->d∈ds->(∀H2,Same H1 H2->Q1 (g d) H2)->tc (some x::σr) H1 Q1)
 (he:∀(x:V) (d:D) (H1:Hp),Same H H1->Rep H1 x d->d∈ds->Dsp te (some x::σr) H1 (f d))
 (q:∀l us H',Same H H'->H l=none->H' l=some (.lst us)->RepL H' us ((ds.filter g).map f)->Q (.ref l) H'):zep (zcU 0) tc te src σ Q J H:=by
 refine zcz wk (λl i ys σ' H'=>(∃o,σ'=o::σr)/\RepL H' ys (((ds.take i).filter g).map f)/\Same H H') ?_ ?_ ?_ ?_
 ·exact λl h'=>⟨⟨none,e⟩,RepL.nil,Same.new h'⟩
 ·exact λl i ys σ' H' _ p=>hok H' p.2.2
 ·rintro l i y ys σ' H1 h' hi hy ⟨⟨o,rfl⟩,ry,s1⟩ hl'
  obtain⟨d,hd,rd⟩:=r.get hy
  refine hc y d H1 _ s1 (rd.same s1) (List.mem_of_getElem? hd) λH2 s2=>?_
  have tk:((ds.take (i+1)).filter g).map f=((ds.take i).filter g).map f ++([d].filter g).map f:=by
   rw[List.take_add_one,hd,List.filter_append,List.map_append];rfl
  rw[tk]
  cases hg:g d with
  |false=>
   have e0:([d].filter g).map f=[]:=by simp[hg]
   rw[e0,List.append_nil]
   exact⟨s2 _ _ hl',⟨_,rfl⟩,ry.mono (.of s2),s1.trans s2⟩
  |true=>
   have e0:([d].filter g).map f=[f d]:=by simp[hg]
   rw[e0]
   refine he y d H2 (s1.trans s2) ((rd.same s1).same s2) (List.mem_of_getElem? hd) H2 _ (Same.refl _) λv H3 s3 rv=>?_
   refine⟨s3 _ _ (s2 _ _ hl'),?_,⟨_,rfl⟩,?_,?_⟩
   ·have h1:=ry.1
    have h2:=List.length_filter_le g (ds.take i)
    rw[List.length_map] at h1
    rw[List.length_take] at h2
    exact zp (by omega)
   ·exact ((ry.mono (.of (s2.trans s3))).append (.cons rv .nil)).mono (.lset (s3 _ _ (s2 _ _ hl')))
   ·exact λc o e=>by
     rw[zh (ze e h')]
     exact s3 _ _ (s2 _ _ (s1 _ _ e))
 ·rintro l ys σ' H1 h' ⟨⟨o,rfl⟩,ry,s1⟩ hl'
  rw[r.1,List.take_length] at ry
  exact q l ys H1 s1 h' hl' ry
end
theorem ziV{H:Hp}{hs:List Str}(h:∀x∈hs,x.length<=1000):RepL H (hs.map V.str) (hs.map D.str):=by
 refine⟨by rw[List.length_map,List.length_map],λi v d hv hd=>?_⟩
 rw[List.getElem?_map] at hv hd
 cases e:hs[i]? with
 |none=>rw[e] at hv;cases hv
 |some x=>
  rw[e] at hv hd
  cases hv
  cases hd
  exact .str x (h x (List.mem_of_getElem? e))
theorem ziI{α β:Type}{F:α->List β}{m:Nat}(hF:∀a,(F a).length<=m):∀l:List α,(l.flatMap F).length<=l.length*m
 |[]=>Nat.zero_le _
 |a::l=>by
  rw[List.flatMap_cons,List.length_append,List.length_cons,Nat.succ_mul]
  have:=ziI hF l
  have:=hF a
  omega
inductive Tr(H:Hp):V->PyData->Prop
 |non:Tr H .non .none
 |bl (b:Bool):Tr H (.bl b) (.bool b)
 |int (i:Int):Tr H (.int i) (.int i)
 |str (x:Str) (h:PyData.strOk x=true):Tr H (.str x) (.str x)
 |tup {p:Addr} {vs:List V} {ds:List PyData} (e:H p=some (.tup vs)) (hl:vs.length=ds.length) (h:∀(i:Nat) (v:V) (d:PyData),vs[i]?=some v->ds[i]?=some d->Tr H v d):Tr H (.ref p) (.tuple ds)
 |lst {p:Addr} {vs:List V} {ds:List PyData} (e:H p=some (.lst vs)) (hl:vs.length=ds.length) (h:∀(i:Nat) (v:V) (d:PyData),vs[i]?=some v->ds[i]?=some d->Tr H v d):Tr H (.ref p) (.list ds)
theorem zbd{h:Heap}:∀{vs:List V} {us:List Value} {ds:List PyData},Vals vs us->vs.length=ds.length->(∀(i:Nat) (v:V) (d:PyData),vs[i]?=some v->ds[i]?=some d->∀u,RelV v u->∃as,Reads h u d as)->∃bs,ReadsAll h us ds bs
 |_,_,[], .nil,_,_=>⟨_, .nil⟩
 |v::vs,u::us,d::ds, .cons r t,hl,hh=>by
  obtain⟨as,ha⟩:=hh 0 v d rfl rfl u r
  obtain⟨bs,hb⟩:=zbd t (by simpa using hl) λi v' d' h1 h2=>hh (i+1) v' d' h1 h2
  exact⟨_, .cons ha hb⟩
 |[],_,d::ds, .nil,hl,_=>by simp at hl
 |v::vs,u::us,[], .cons r t,hl,_=>by simp at hl
theorem Tr.reads{X:Cx}{pins:List (Addr×Obj)}{σ:L2.St}{H:Hp}{s:Shared}(I:Inv X pins σ H s){x:V}{d:PyData}(t:Tr H x d):∀v,RelV x v->∃as,Reads s.heap v d as:=by
 induction t with
 |non=>intro v r;cases r;exact⟨_, .none⟩
 |bl b=>intro v r;cases r;exact⟨_, .bool b⟩
 |int i=>intro v r;obtain⟨t,rfl⟩:=r;exact⟨_, .int i t⟩
 |str x h=>intro v r;obtain⟨t,rfl⟩:=r;exact⟨_, .str x t⟩
 |tup e hl h ih=>
  intro v r
  cases r
  obtain⟨its,rv,⟨o,ho,hc,n,hd⟩,_⟩:=I.tuple (SqT.of e)
  obtain⟨bs,hb⟩:=zbd (h:=s.heap) rv hl ih
  exact⟨_, .tuple ho hc hd (by simpa using hb)⟩
 |lst e hl h ih=>
  intro v r
  cases r
  obtain⟨its,n,rv,ho,_⟩:=I.lst e
  obtain⟨bs,hb⟩:=zbd (h:=s.heap) rv hl ih
  exact⟨_, .list ho rfl rfl (by simpa using hb)⟩
theorem zcc:∀{vs:List V} {ds:List PyData},vs.length=ds.length->(∀(i:Nat) (v:V) (d:PyData),vs[i]?=some v->ds[i]?=some d->d.canLay0=true)->PyData.canLayAll0 ds=true
 |_,[],_,_=>rfl
 |v::vs,d::ds,hl,hh=>by
  rw[PyData.canLayAll0,hh 0 v d rfl rfl,zcc (vs:=vs) (ds:=ds) (by simpa using hl) λi v' d' h1 h2=>hh (i+1) v' d' h1 h2];rfl
 |[],d::ds,hl,_=>by simp at hl
theorem Tr.can{H:Hp}{x:V}{d:PyData}(t:Tr H x d):d.canLay0=true:=by
 induction t with
 |non=>rfl
 |bl b=>rfl
 |int i=>rfl
 |str x h=>simp only[PyData.canLay0];exact h
 |tup e hl h ih=>rw[PyData.canLay0];exact zcc hl ih
 |lst e hl h ih=>rw[PyData.canLay0];exact zcc hl ih
section
variable{X:Cx}
noncomputable def zqQ:R2:=λx y H Q=>∃d e,Tr H x d/\Tr H y e/\min d.depth e.depth<=60/\Q (.bl (d.eqv e)) H
noncomputable def zqZ:R2:=λx y H Q=>∃d e,Tr H x d/\Tr H y e/\min d.depth e.depth<=60/\Q (.bl (!d.eqv e)) H
theorem zpn(hu:X.A.units+64<cLine):OpR X (compareOp .Eq) zqQ:=by
 intro pins s σ H x y v u Q I rx ry h
 obtain⟨d,e,t1,t2,hd,q⟩:=h
 obtain⟨as,r1⟩:=t1.reads I v rx
 obtain⟨bs,r2⟩:=t2.reads I u ry
 exact SeqAt.compareEq_reads r1 r2 t1.can t2.can (by omega) ⟨.bl _,H,I,rfl,q⟩
theorem zpf(hu:X.A.units+64<cLine):OpR X (compareOp .NotEq) zqZ:=by
 intro pins s σ H x y v u Q I rx ry h
 obtain⟨d,e,t1,t2,hd,q⟩:=h
 obtain⟨as,r1⟩:=t1.reads I v rx
 obtain⟨bs,r2⟩:=t2.reads I u ry
 exact SeqAt.compareNe_reads r1 r2 t1.can t2.can (by omega) ⟨.bl _,H,I,rfl,q⟩
theorem zeY{k:Nat}{A:Around}(r:Room k A):A.units+64<cLine:=by have:=r.un;omega
end
end RW
namespace HT
open PySem PySem.Spec PyProof.Rows
section
variable{prog:Program}{w:World}{A:Around}{E:Value->Shared->Prop}{s:Shared}
end
end HT
namespace L2
open PySem PySem.Spec PyProof.Rows
section
variable{X:Cx}{e:Expr}{te:TE}{p1 p2 p3 pos:Pos}{tk:Tok}
end
end L2
namespace HT
open PySem PySem.Spec PyProof.Rows
section
variable{prog:Program}{w:World}{A:Around}{E:Value->Shared->Prop}{s:Shared}
theorem getItem_tuple_whole{t sl:Addr}{items:Array Value}{vl vu:Value}{lo hi:Option Int}{Q:Value->Shared->Prop}(ht:IsTup s.heap t items)(hs:s.heap.IsSliceOf sl vl vu .none)(pl:IsPart vl lo)(pu:IsPart vu hi)
 (h1:sIx items.size 0 lo=0) (h2:sIx items.size items.size hi=items.size)
 (h:Q (.ref t) s):wpAny (model prog w) A (getItem (.ref t) (.ref sl)) Q E s:=by
 obtain⟨os,hos,hcs,hds⟩:=id hs
 have hTs:s.TypeIs (.ref sl) "slice":=⟨os,hos,hcs⟩
 unfold getItem
 try with_reducible refine wpAny_holding ?_
 first|refine wpAny_bind (wpAny_pure ?_)|skip
 refine wpAny_bind (wpAny_sequenceKey ht.typeIs (by decide) ?_)
 refine wpAny_bind (wpAny_callSpecial?_slot (name:=Str.ofString "__getitem__") ht.typeIs PyProof.Rows.slot_tuple_getitem
  (wpAny_call_entry PyProof.Rows.slot_tuple_getitem ht.typeIs entry_tuple_getitem ?_ (args_tuple_getitem _ _)))
 show wpAny _ _ (Builtin.Tuple.tupleItemsOf (.ref t)>>=_) _ _ s
 refine wpAny_bind (tupleItemsOf_ ht ?_)
 refine wpAny_bind (wpAny_typeOf hTs ?_)
 rw[if_pos (by decide)]
 refine wpAny_bind (zcW hs pl pu ?_)
 rw[h1,h2]
 show wpAny _ _ (if(((0:Nat):Int)==0&&(1:Int)==1&&(items.size -0)==items.size)=true then _ else _) _ _ s
 rw[if_pos (by simp)]
 unfold Builtin.Tuple.tupleIsExact
 refine wpAny_bind (wpAny_bind (wpAny_typeOf ht.typeIs (wpAny_pure ?_)))
 rw[if_pos (by decide)]
 refine wpAny_bind (wpAny_rule ?_)
 exact wpAny_pure ⟨_,rfl,wpAny_pure h⟩
end
end HT
namespace L2
open PySem PySem.Spec PyProof.Rows
section
variable{X:Cx}{K:PySem.W.Frag}
def zqt(K:PySem.W.Frag):V->Option Int->Option Int->Hp->VK->Prop:=λx lo hi H Q=>∃a xs,x= .ref a/\SqT K H a xs/\
 (zcp xs lo hi=xs->Q (.ref a) H)/\∀p,H p=none->Q (.ref p) (upd H p (.tup (zcp xs lo hi)))
theorem zjX:SlR X (zqt X.K):=by
 intro pins s σ H x v vl vu lo hi sl Q I rx hs pl pu h
 obtain⟨a,xs,rfl,hx,q1,q2⟩:=h
 by_cases hw:HT.sIx xs.length 0 lo=0/\HT.sIx xs.length xs.length hi=xs.length
 ·have rx':v= .ref a:=rx
  subst rx'
  obtain⟨its,r,ht,hz⟩:=I.tuple hx
  have hlen:its.toArray.size=xs.length:=by rw[List.size_toArray];exact r.length.symm
  refine⟨"tuple",_,PyProof.Rows.slot_tuple_getitem.lookup,ht.typeIs,?_⟩
  refine HT.getItem_tuple_whole ht hs pl pu (by rw[hlen];exact hw.1) (by rw[hlen];exact hw.2) ⟨.ref a,H,I,rfl,q1 ?_⟩
  unfold zcp
  rw[hw.1,hw.2];simp
 ·exact zp6 pins s σ H (.ref a) v vl vu lo hi sl Q I rx hs pl pu ⟨a,xs,rfl,hx,hw,q2⟩
end
end L2
namespace RW
open PySem PySem.Spec PyProof.Rows L2
section
variable{te tf:TE}{ta:TA}{σ:L2.St}{H:Hp}{d:D}{ds es:List D}{K:PySem.W.Frag}
end
theorem zlh:∀x∈keptL,x≠"nowhere":=by decide +kernel
theorem zlm:zjS "nowhere"=false:=by decide +kernel
theorem zkQ(f st sp j k:Nat):zbq f st sp j k≠"nowhere":=by
 unfold zbq
 split
 ·exact zlh _ (zi3 sp k)
 ·intro z
  have e:=zlm
  rw[←z] at e
  unfold nmS at e
  rw[zhL] at e
  cases e
section
variable{te:TE}{ta:TA}{tb:TS}{De:Ends}{σ:L2.St}{H:Hp}{d:D}{ds es:List D}{K:PySem.W.Frag}{k j:Nat}{g:D->Bool}{l lf:Addr}{m:Nat}
end
section
variable{x h t l a:D}
end
section
variable{te tf:TE}{ta:TA}{tb:TS}{De:Ends}{σ:L2.St}{H:Hp}{d:D}{ds es:List D}{K:PySem.W.Frag}{k j:Nat}{g:D->Bool}{m:Nat}
theorem zaU{H H':Hp}{p:Addr}(s:Same H H')(h:H' p=none):H p=none:=by
 cases e:H p with
 |none=>rfl
 |some o=>have:=s _ _ e;rw[h] at this;cases this
end
theorem zak{x:Str}(h:zi x=true):PyData.strOk x=true:=by
 unfold zi at h
 simp only[Bool.and_eq_true] at h
 have h2:=h.1.2
 unfold PyData.strOk
 rw[Array.all_eq_true']
 intro c hc
 have:=List.all_eq_true.mp h2 c (by simpa using hc)
 unfold zj4 at this
 simp only[Bool.and_eq_true,decide_eq_true_eq] at this
 exact decide_eq_true (by omega)
theorem zcK{α:Type}[DecidableEq α]:∀{l m:List α},l.Nodup->(∀x∈l,x∈m)->l.length<=m.length
 |[],m,_,_=>Nat.zero_le _
 |a::l,m,hn,hs=>by
  have ha:=hs a List.mem_cons_self
  have:=zcK (l:=l) (m:=m.erase a) (List.nodup_cons.mp hn).2 λx hx=>(List.mem_erase_of_ne (λz:x=a=>(List.nodup_cons.mp hn).1 (by rw[←z];exact hx))).mpr (hs x (List.mem_cons_of_mem _ hx))
  rw[List.length_erase_of_mem ha] at this
  have:1<=m.length:=List.length_pos_of_mem ha
  rw[List.length_cons]
  omega
theorem TownOk.lp{g:Str}{hs:List Str}{ps:List (Str×Str)}{lks hds:List D}(T:TownOk g hs ps lks hds):ps.length<=100:=by
 have nd:ps.Nodup:=T.riseP.imp λ{a b} h z=>by rw[z,zhk] at h;cases h
 have:=zcK (m:=hs.flatMap λa=>hs.map λb=>(a,b)) nd λp hp=>by
  obtain⟨h1,h2,_⟩:=T.ties p hp
  exact List.mem_flatMap.mpr ⟨p.1,h1,List.mem_map.mpr ⟨p.2,h2,rfl⟩⟩
 have h2:=ziI (F:=λa=>hs.map λb=>(a,b)) (m:=10) (λa=>by rw[List.length_map];exact T.ten) hs
 have:=T.ten
 omega
end RW
namespace RW
theorem zaM{b:Bool}{X Y:Prop}(h:b=true)(x:X):if b=true then X else Y:=by rw[if_pos h];exact x
theorem zac{b:Bool}{X Y:Prop}(h:b=false)(y:Y):if b=true then X else Y:=by rw[if_neg (by rw[h];decide)];exact y
end RW
namespace L2
open PySem PySem.W PySem.Spec PyProof.Rows
section
variable{prog:Program}{w:World}{A:Around}{E:Value->Shared->Prop}{s:Shared}
theorem ziF{r:Addr}{T:String}{o:Obj}{vs:List Value}{n:Nat}{R:List Value->Shared->Prop}(hT:T="list"\/T="tuple")(ho:s.heap.get? r=some o)(hc:o.cls= .type T)(hd:o.data= .seq vs.toArray n)(hz:vs.length<=sizeLine)
 (q:∀(h':Heap),(∀b o,s.heap.get? b=some o->h'.get? b=some o)->s.heap.objs.size<h'.objs.size->R vs {s with heap:=h'}):wpAny (model prog w) A (collect (.ref r)) R E s:=by
 have lt:=Heap.lt_size ho
 have hne:r≠s.heap.objs.size:=Nat.ne_of_lt lt
 have g0:(s.heap.push {cls:= .type "list",data:= .seq ([]:List Value).toArray}).get? s.heap.objs.size=some (seqObj "list" #[] 0):=Heap.get?_push_size _ rfl
 have gr:(s.heap.push {cls:= .type "list",data:= .seq ([]:List Value).toArray}).get? r=some o:=Heap.get?_push_of_some _ ho
 obtain⟨e1,g1⟩:∃e1,((s.heap.push {cls:= .type "list",data:= .seq ([]:List Value).toArray}).update s.heap.objs.size (Obj.mapSeq λx=>x ++vs.toArray)).get? s.heap.objs.size=some (seqObj "list" ((#[]:Array Value)++vs.toArray) e1):=⟨_,get?_update_seq g0 λx=>x ++vs.toArray⟩
 have u1:=Heap.SameBut.update (s.heap.push {cls:= .type "list",data:= .seq ([]:List Value).toArray}) s.heap.objs.size (Obj.mapSeq λx=>x ++vs.toArray)
 unfold collect
 refine wpAny_bind (wpAny_runValue (codeAny_builtin entry_proto_collect' (by
  rw[Around.under_plainId PySem.F.plain_proto_collect _]
  show wpAny _ A.in1 (newList []>>=λl=>again (.builtin "list.__iadd__" ⟨[l, .ref r],[]⟩)) _ _ s
  refine wpAny_bind (wpAny_newObj_type (wpAny_pure ⟨plainId_quiet PySem.F.plain_list_iadd _,codeAny_builtin entry_list_iadd' (by
   rw[Around.under_plainId PySem.F.plain_list_iadd _]
   show wpAny _ A.in1 (Builtin.List.listExtendWith (.ref s.heap.objs.size) (.ref r) (.ref s.heap.objs.size)) _ _ _
   unfold Builtin.List.listExtendWith
   have hty:({s with heap:=s.heap.push {cls:= .type "list",data:= .seq ([]:List Value).toArray}}:Shared).TypeIs (.ref r) T:=⟨o,gr,hc⟩
   refine wpAny_bind (wpAny_typeOf hty ?_)
   rw[if_pos (by rcases hT with rfl|rfl<;>simp)]
   refine wpAny_bind (listItems_at gr hd (wpAny_bind (listItems_at g0 rfl ?_)))
   rw[if_neg (by simp)]
   refine wpAny_bind (listUpdate_at g0 rfl ?_ (Nat.zero_le _) (by show((#[]:Array Value)++vs.toArray).size<=_;simp;omega))
   refine wpAny_pure ?_
   show wpAny _ A (load s.heap.objs.size>>=_) _ _ _
   refine wpAny_bind (wpAny_load g1 (wpAny_pure ?_))
   have ev:((#[]:Array Value)++vs.toArray).toList=vs:=by simp
   show R ((#[]:Array Value)++vs.toArray).toList _
   rw[ev]
   exact q _ (λb o e=>(u1.2 b (Nat.ne_of_lt (Heap.lt_size e))).trans (Heap.get?_push_of_some _ e)) (Heap.lt_size g1))⟩)))))
theorem zeV{l:Addr}{T:String}{o:Obj}{vs:List Value}{n:Nat}{ss:List Str}{Q:Value->Shared->Prop}(hT:T="list"\/T="tuple")(ho:s.heap.get? l=some o)(hc:o.cls= .type T)(hd:o.data= .seq vs.toArray n)(hS:StrsAre vs ss)(h64:vs.length<64)
 (q:∀(D:Addr) (out:Array Value) (ss':List Str) (h':Heap) (e:Nat),StrsAre out.toList ss'->ss'.Perm ss->sortedS ss'=true->(∀b o,s.heap.get? b=some o->h'.get? b=some o)->s.heap.objs.size<=D->h'.get? D=some (seqObj "list" out e)->Q (.ref D) {s with heap:=h'}):
 wpAny (model prog w) A (call (.builtin "sorted") [.ref l]) Q E s:=by
 refine Calls.call_function_entry kind_sorted plain_sorted entry_sorted (args_sorted1 _) ?_
 unfold Builtin.«sorted»
 refine wpAny_bind (m:=checkCount "sorted" 1 1 _) (wpAny_pure (wpAny_bind (ziF hT ho hc hd (by rw[sizeLine_eq];omega) λh1 kp gr0=>?_)))
 refine wpAny_bind (wpAny_newList ?_ (by show vs.length<=_;rw[sizeLine_eq];omega))
 have hD:(h1.push (seqObj "list" vs.toArray 0)).get? h1.objs.size=some (seqObj "list" vs.toArray 0):=Heap.get?_push_size _ rfl
 have k2:∀b o,s.heap.get? b=some o->(h1.push (seqObj "list" vs.toArray 0)).get? b=some o:=λb o e=>Heap.get?_push_of_some _ (kp b o e)
 have gr:s.heap.objs.size<=h1.objs.size:=Nat.le_of_lt gr0
 show wpAny _ _ _ _ _ {s with heap:=h1.push (seqObj "list" vs.toArray 0)}
 refine wpAny_bind (wpAny_holding (wpAny_call_entry slot_list_sort ⟨_,hD,rfl⟩ entry_list_sort (list_sort_treeK strKind_oneLt (s:={s with heap:=h1.push (seqObj "list" vs.toArray 0)}) hD hS.keysOf (λv1 v2 rest e=>?_) h64 λst' hp hs=>?_) (args_list_sort _)))
 ·subst e
  exact keyKind_strs hS
 ·obtain ⟨ss',a1,a2,a3⟩:=sorted_out_str hS hp hs
  obtain⟨e,he⟩:=sortedHeap_at (h:=h1.push (seqObj "list" vs.toArray 0)) (vs:=vs) (out:=Array.map (λx=>x.snd) (arrOf st')) hD
  refine⟨_,rfl,wpAny_pure ⟨_,rfl,q h1.objs.size _ ss' _ e a1 a2 a3 (λb o hb=>?_) gr he⟩⟩
  have lb:=Heap.lt_size hb
  rw[sortedHeap_old (Nat.ne_of_lt (Nat.lt_of_lt_of_le lb gr)) (Heap.lt_size (k2 b o hb))]
  exact k2 b o hb
end
section
variable{X:Cx}{K:PySem.W.Frag}
def zoy(K:PySem.W.Frag):List V->Hp->VK->Prop:=λxs H Q=>∃(p:Addr) (ss:List Str),xs=[.ref p]/\(SqL K H p (ss.map V.str)\/SqT K H p (ss.map V.str))/\ss.length<64/\∀(ss':List Str) l,ss'.Perm ss->sortedS ss'=true->H l=none->Q (.ref l) (upd H l (.lst (ss'.map V.str)))
theorem zd5:CallR X (.builtin "sorted") (zoy X.K):=by
 intro pins s σ H xs us Q I r h
 obtain⟨p,ss,rfl,hq,h64,q⟩:=h
 obtain⟨u,rfl,ru⟩:=zc8 r
 cases ru
 have key:∀{its:List Value} {T:String} {o:Obj} {n:Nat},T="list"\/T="tuple"->s.heap.get? p=some o->o.cls= .type T->o.data= .seq its.toArray n->Vals (ss.map V.str) its->wpAny (model X.prog X.w) X.A (call (.builtin "sorted") [.ref p]) (EP X pins σ Q) X.xe s:=by
  intro its T o n hT ho hc hd rv
  have hS:=za9 rv
  have hl:=rv.length
  rw[List.length_map] at hl
  refine zeV hT ho hc hd hS (by omega) λD out ss' h' e a1 a2 a3 kp hD he=>?_
  refine⟨.ref D,_,I.laid (a:=D) (o:= .lst (ss'.map V.str)) (t':=s.toks) kp hD ⟨?_,out.toList,e,?_,?_⟩,rfl,q ss' D a2 a3 (I.hok.fresh hD)⟩
  ·rw[List.length_map,a2.length_eq];exact Nat.le_of_lt (zp (by omega))
  ·have mk:∀{vs:List Value} {zs:List Str},StrsAre vs zs->Vals (zs.map V.str) vs:=by
    intro vs zs h
    induction h with
    |nil=>exact .nil
    |cons x t _ ih=>exact .cons ⟨t,rfl⟩ ih
   exact mk a1
  ·rw[Array.toArray_toList];exact he
 rcases hq with hq|hq
 ·obtain ⟨its,rv,pl,hz⟩:=I.list hq
  obtain⟨o,ho,hc,n,hd⟩:=pl.isList
  exact key (.inl rfl) ho hc hd rv
 ·obtain ⟨its,rv,pl,hz⟩:=I.tuple hq
  obtain⟨o,ho,hc,n,hd⟩:=pl
  exact key (.inr rfl) ho hc hd rv
end
end L2
namespace RW
open PySem PySem.Spec PyProof.Rows L2
theorem zeh{hs:List Str}{x:Str}:inV (.str x) (hs.map V.str)=hs.any λy=>decide (y=x):=by
 unfold inV
 rw[List.any_map]
 congr 1
theorem zcP{hs:List Str}:(hs.map V.str).all zd6=true:=by
 rw[List.all_map,List.all_eq_true]
 exact λ_ _=>rfl
theorem ziU{H:Hp}{v:V}{xs:List Str}(h:Rep H v (.tup (xs.map D.str))):∃p,v= .ref p/\H p=some (.tup (xs.map V.str)):=by
 obtain⟨p,vs,rfl,hp,r,_⟩:=h.ofT
 refine⟨p,rfl,?_⟩
 have e:vs=xs.map V.str:=by
  apply List.ext_getElem?
  intro i
  rcases Nat.lt_or_ge i xs.length with hi|hi
  ·have hv:i<vs.length:=by rw[r.1,List.length_map];exact hi
   have:=r.2 i vs[i] (.str xs[i]) (by simp[hv]) (by simp[hi])
   rw[List.getElem?_eq_getElem hv,List.getElem?_map,List.getElem?_eq_getElem hi]
   generalize vs[i]=z at this
   cases this
   rfl
  ·rw[List.getElem?_eq_none (by rw[r.1,List.length_map];exact hi),List.getElem?_eq_none (by rw[List.length_map];exact hi)]
 rw[←e];exact hp
theorem zqR{H:Hp}{v:V}{d1 d2 d3 d4 d5:D}(h:Rep H v (.tup [d1,d2,d3,d4,d5])):∃p x1 x2 x3 x4 x5,v= .ref p/\H p=some (.tup [x1,x2,x3,x4,x5])/\Rep H x1 d1/\Rep H x2 d2/\Rep H x3 d3/\Rep H x4 d4/\Rep H x5 d5:=by
 obtain⟨p,vs,rfl,hp,r,_⟩:=h.ofT
 match vs,r with
 |[x1,x2,x3,x4,x5],r=>exact ⟨p,x1,x2,x3,x4,x5,rfl,hp,r.head.1,r.head.2.head.1,r.head.2.head.2.head.1,r.head.2.head.2.head.2.head.1,r.head.2.head.2.head.2.head.2.head.1⟩
 |[],r=>exact absurd r.1 (by simp)
 |[_],r=>exact absurd r.1 (by simp)
 |[_,_],r=>exact absurd r.1 (by simp)
 |[_,_,_],r=>exact absurd r.1 (by simp)
 |[_,_,_,_],r=>exact absurd r.1 (by simp)
 |_::_::_::_::_::_::_,r=>exact absurd r.1 (by simp)
def zp0(H:Hp)(v:V)(g:Str)(hs:List Str)(ps:List (Str×Str))(lks hds:List D):Prop:=∃p pr pt pl pa vt vl va,v= .ref p/\H p=some (.tup [.str g, .ref pr, .ref pt, .ref pl, .ref pa])/\H pr=some (.tup (hs.map V.str))/\H pt=some (.tup vt)/\RepL H vt (ps.map RW.pairD)/\H pl=some (.tup vl)/\RepL H vl lks/\H pa=some (.tup va)/\RepL H va hds
theorem ze9{H:Hp}{v:V}{g:Str}{hs:List Str}{ps:List (Str×Str)}{lks hds:List D}(h:Rep H v (zaf g hs ps lks hds)):zp0 H v g hs ps lks hds:=by
 obtain⟨p,x1,x2,x3,x4,x5,rfl,hp,r1,r2,r3,r4,r5⟩:=zqR h
 cases r1 with|str _ _=>
 obtain⟨pr,rfl,hpr⟩:=ziU r2
 obtain⟨pt,vt,rfl,hpt,rt,_⟩:=r3.ofT
 obtain⟨pl,vl,rfl,hpl,rl,_⟩:=r4.ofT
 obtain⟨pa,va,rfl,hpa,ra,_⟩:=r5.ofT
 exact⟨p,pr,pt,pl,pa,vt,vl,va,rfl,hp,hpr,hpt,rt,hpl,rl,hpa,ra⟩
noncomputable def zeS(ps:List (Str×Str))(x:Str):List Str:=(ps.filter λp=>decide (p.2=x)).map (·.1)++(ps.filter λp=>decide (p.1=x)).map (·.2)
theorem mem_nbrs{ps:List (Str×Str)}{x y:Str}:y∈zeS ps x↔(y,x)∈ps\/(x,y)∈ps:=by
 unfold zeS
 rw[List.mem_append,List.mem_map,List.mem_map]
 constructor
 ·rintro (⟨⟨a,b⟩,h,rfl⟩|⟨⟨a,b⟩,h,rfl⟩)
  ·obtain ⟨h1,h2⟩:=List.mem_filter.mp h
   have h2:b=x:=of_decide_eq_true h2
   subst h2
   exact .inl h1
  ·obtain ⟨h1,h2⟩:=List.mem_filter.mp h
   have h2:a=x:=of_decide_eq_true h2
   subst h2
   exact .inr h1
 ·rintro (h|h)
  ·exact .inl ⟨(y,x),List.mem_filter.mpr ⟨h,decide_eq_true rfl⟩,rfl⟩
  ·exact .inr ⟨(x,y),List.mem_filter.mpr ⟨h,decide_eq_true rfl⟩,rfl⟩
theorem TownOk.ps_nd{g:Str}{hs:List Str}{ps:List (Str×Str)}{lks hds:List D}(T:TownOk g hs ps lks hds):ps.Nodup:=T.riseP.imp λ{a b} h z=>by rw[z,zhk] at h;cases h
theorem TownOk.hs_nd{g:Str}{hs:List Str}{ps:List (Str×Str)}{lks hds:List D}(T:TownOk g hs ps lks hds):hs.Nodup:=T.rise.imp λ{a b} h z=>by rw[z,ze5] at h;cases h
theorem zj8{g:Str}{hs:List Str}{ps:List (Str×Str)}{lks hds:List D}(T:TownOk g hs ps lks hds)(x:Str):(zeS ps x).Nodup:=by
 have nd:=T.ps_nd
 unfold zeS
 rw[List.nodup_append]
 refine⟨?_,?_,?_⟩
 ·rw[List.nodup_iff_pairwise_ne,List.pairwise_map]
  refine List.Pairwise.imp_of_mem (λ{a b} ha hb hab z=>?_) (nd.filter _)
  have h1:a.2=x:=of_decide_eq_true (List.mem_filter.mp ha).2
  have h2:b.2=x:=of_decide_eq_true (List.mem_filter.mp hb).2
  exact hab (Prod.ext z (h1.trans h2.symm))
 ·rw[List.nodup_iff_pairwise_ne,List.pairwise_map]
  refine List.Pairwise.imp_of_mem (λ{a b} ha hb hab z=>?_) (nd.filter _)
  have h1:a.1=x:=of_decide_eq_true (List.mem_filter.mp ha).2
  have h2:b.1=x:=of_decide_eq_true (List.mem_filter.mp hb).2
  exact hab (Prod.ext (h1.trans h2.symm) z)
 ·intro y hy z hz e
  subst e
  obtain⟨a,ha,rfl⟩:=List.mem_map.mp hy
  obtain⟨b,hb,eb⟩:=List.mem_map.mp hz
  obtain⟨ha1,ha2⟩:=List.mem_filter.mp ha
  obtain⟨hb1,hb2⟩:=List.mem_filter.mp hb
  have h1:a.2=x:=of_decide_eq_true ha2
  have h2:b.1=x:=of_decide_eq_true hb2
  have l1:=(T.ties a ha1).2.2
  have l2:=(T.ties b hb1).2.2
  rw[h1] at l1
  rw[h2,eb] at l2
  have:=ze2 l1
  rw[l2] at this
  cases this
theorem zc3{g:Str}{hs:List Str}{ps:List (Str×Str)}{lks hds:List D}(T:TownOk g hs ps lks hds){x y:Str}(h:y∈zeS ps x):y∈hs:=by
 rcases mem_nbrs.mp h with h|h
 ·exact (T.ties _ h).1
 ·exact (T.ties _ h).2.1
theorem zcM{g:Str}{hs:List Str}{ps:List (Str×Str)}{lks hds:List D}(T:TownOk g hs ps lks hds)(x:Str):(zeS ps x).length<=10:=Nat.le_trans (zcK (zj8 T x) λy hy=>zc3 T hy) T.ten
structure WayOk(g:Str)(hs:List Str)(ps:List (Str×Str))(ws:List Str):Prop where
 nd:ws.Nodup
 mem:∀x∈ws,x∈hs
 last:∃w0,ws=w0 ++ [g]
 tied:∀(i:Nat) (a b:Str),ws[i]?=some a->ws[i+1]?=some b->b∈zeS ps a
theorem ziN{J:It}{vs:List V}{ps:List (Str×Str)}{sel:Str×Str->Bool}{f:Str×Str->Str}{ok:Hp->Prop}{g:TG}{tc:TT}{te:TE}{H:Hp}{src:List (Option Nat)}{σ:L2.St}{Q:VK}(Iv:L2.St->Prop)(wk:Wk J vs.length (λi x=>vs[i]?=some x) ok)(hok:∀H',Same H H'->ok H')(r:RepL H vs (ps.map RW.pairD))(hl:ps.length<=900)(h0:Iv (zgg src σ))
 (hs:∀(q:Addr) (p:Str×Str) (σ':L2.St) (H1:Hp) (A:V->Hp->L2.St->Prop) (B:L2.St->Hp->Prop),Iv σ'->Same H H1->H1 q=some (.tup [.str p.1, .str p.2])->p∈ps->(∀σ2,Iv σ2->if sel p=true then A (.str (f p)) H1 σ2 else B σ2 H1)->g (.ref q) σ' H1 λσ2 H3=>tc σ2 H3 λb H4=>if b=true then te σ2 H4 (λy H5=>A y H5 σ2)else B σ2 H4)
 (q:∀l H',Same H H'->H l=none->H' l=some (.lst (((ps.filter sel).map f).map V.str))->Q (.ref l) H'):zep g tc te src σ Q J H:=by
 refine zcz wk (λl i ys σ' H'=>Iv σ'/\ys=(((ps.take i).filter sel).map f).map V.str/\Same H H') ?_ ?_ ?_ ?_
 ·exact λl h'=>⟨h0,rfl,Same.new h'⟩
 ·exact λl i ys σ' H' _ p=>hok H' p.2.2
 ·rintro l i y ys σ' H1 h' hi hy ⟨iv,rfl,s1⟩ hl'
  obtain⟨d,hd,rd⟩:=r.get hy
  rw[List.getElem?_map] at hd
  cases hp:ps[i]? with
  |none=>rw[hp] at hd;cases hd
  |some p=>
   rw[hp] at hd
   cases hd
   obtain⟨q,x,y,rfl,hq,r1,r2⟩:=(rd.same s1).of2
   cases r1 with|str _ _=>
   cases r2 with|str _ _=>
   refine hs q p σ' H1 (λy H5 σ2=>H5 l=some (.lst ((((ps.take i).filter sel).map f).map V.str))/\((((ps.take i).filter sel).map f).map V.str).length<sizeLine/\Iv σ2/\(((ps.take i).filter sel).map f).map V.str ++ [y]=(((ps.take (i+1)).filter sel).map f).map V.str/\Same H (upd H5 l (.lst ((((ps.take i).filter sel).map f).map V.str ++ [y])))) (λσ2 H4=>H4 l=some (.lst ((((ps.take i).filter sel).map f).map V.str))/\Iv σ2/\(((ps.take i).filter sel).map f).map V.str=(((ps.take (i+1)).filter sel).map f).map V.str/\Same H H4) iv s1 hq (List.mem_of_getElem? hp) λσ2 iv2=>?_
   have tk:((ps.take (i+1)).filter sel)=((ps.take i).filter sel)++ [p].filter sel:=by rw[List.take_add_one,hp,List.filter_append];rfl
   cases hsel:sel p with
   |false=>
    refine zac rfl ⟨hl',iv2,?_,s1⟩
    rw[tk]
    simp[hsel]
   |true=>
    refine zaM rfl ⟨hl',?_,iv2,?_,?_⟩
    ·rw[List.length_map,List.length_map]
     have h2:=List.length_filter_le sel (ps.take i)
     rw[List.length_take] at h2
     exact zp (by omega)
    ·rw[tk]
     simp[hsel]
    ·exact λc o e=>by
      rw[zh (ze e h')]
      exact s1 _ _ e
 ·rintro l ys σ' H1 h' ⟨iv,rfl,s1⟩ hl'
  have e:ps.length=vs.length:=by rw[r.1,List.length_map]
  rw[←e,List.take_length] at hl'
  exact q l H1 s1 h' hl'
theorem zgu{H:Hp}{us:List V}{xs:List Str}(r:RepL H us (xs.map D.str)):us=xs.map V.str:=by
 apply List.ext_getElem?
 intro i
 rcases Nat.lt_or_ge i xs.length with hi|hi
 ·have hv:i<us.length:=by rw[r.1,List.length_map];exact hi
  have:=r.2 i us[i] (.str xs[i]) (by simp[hv]) (by simp[hi])
  rw[List.getElem?_eq_getElem hv,List.getElem?_map,List.getElem?_eq_getElem hi]
  generalize us[i]=z at this
  cases this
  rfl
 ·rw[List.getElem?_eq_none (by rw[r.1,List.length_map];exact hi),List.getElem?_eq_none (by rw[List.length_map];exact hi)]
noncomputable def zlM(ws:List Str):D->Bool| .str x=>!(ws.any λy=>decide (y=x))|_=>false
theorem ziJ{ws xs:List Str}:(xs.map D.str).filter (zlM ws)=(xs.filter λx=>!(ws.any λy=>decide (y=x))).map D.str:=by
 rw[List.filter_map];rfl
noncomputable def zt(xs:List Str):List PyData:=xs.map PyData.str
theorem zkf{H:Hp}{l:Addr}{xs:List Str}(e:H l=some (.lst (xs.map V.str)))(h:∀x∈xs,PyData.strOk x=true):Tr H (.ref l) (.list (zt xs)):=by
 refine .lst e (by unfold zt;rw[List.length_map,List.length_map]) λi v d e1 e2=>?_
 unfold zt at e2
 rw[List.getElem?_map] at e1 e2
 cases e3:xs[i]? with
 |none=>rw[e3] at e1;cases e1
 |some x=>
  rw[e3] at e1 e2
  cases e1
  cases e2
  exact .str x (h x (List.mem_of_getElem? e3))
theorem zmC{H:Hp}{l:Addr}(e:H l=some (.lst [])):Tr H (.ref l) (.list []):= .lst e rfl λi v d z=>by cases z
section
variable{X:Cx}{K:PySem.W.Frag}
end
section
variable{te tf:TE}{ta:TA}{σ:L2.St}{H:Hp}{d:D}{ds es:List D}{K:PySem.W.Frag}
end
section
variable{te tf:TE}{ta:TA}{tb:TS}{De:Ends}{σ:L2.St}{H:Hp}{d:D}{ds es:List D}{K:PySem.W.Frag}{k:Nat}
end
theorem zfw:∀{l m:List Str},l.Pairwise (λa b=>ltS a b=true)->m.Pairwise (λa b=>ltS a b=true)->(∀x,x∈l↔x∈m)->l=m
 |[],[],_,_,_=>rfl
 |[],b::m,_,_,h=>absurd ((h b).mpr List.mem_cons_self) List.not_mem_nil
 |a::l,[],_,_,h=>absurd ((h a).mp List.mem_cons_self) List.not_mem_nil
 |a::l,b::m,p,q,h=>by
  obtain⟨p1,p2⟩:=List.pairwise_cons.mp p
  obtain⟨q1,q2⟩:=List.pairwise_cons.mp q
  have e:a=b:=by
   rcases List.mem_cons.mp ((h a).mp List.mem_cons_self)with z|z
   ·exact z
   rcases List.mem_cons.mp ((h b).mpr List.mem_cons_self)with y|y
   ·exact y.symm
   have:=ze2 (q1 a z)
   rw[p1 b y] at this;cases this
  subst e
  rw[zfw p2 q2 λx=>⟨λhx=>?_,λhx=>?_⟩]
  ·rcases List.mem_cons.mp ((h x).mp (List.mem_cons_of_mem _ hx))with rfl|z
   ·have:=p1 x hx;rw[ze5] at this;cases this
   ·exact z
  ·rcases List.mem_cons.mp ((h x).mpr (List.mem_cons_of_mem _ hx))with rfl|z
   ·have:=q1 x hx;rw[ze5] at this;cases this
   ·exact z
noncomputable def dueB(ps:List (Str×Str))(x:Str):D->Bool| .str y=>decide ((x,y)∈ps)||decide ((y,x)∈ps)|_=>false
noncomputable def due(hs:List Str)(ps:List (Str×Str))(x:Str):List Str:=hs.filter λy=>decide ((x,y)∈ps)||decide ((y,x)∈ps)
theorem zfF{g:Str}{hs:List Str}{ps:List (Str×Str)}{lks hds:List D}(T:TownOk g hs ps lks hds){x:Str}{ts:List Str}(hp:ts.Perm (zeS ps x))(h:sortedS ts=true):ts=due hs ps x:=by
 refine zfw (zfb ts h (hp.nodup_iff.mpr (zj8 T x))) (T.rise.filter _) λy=>?_
 rw[hp.mem_iff,mem_nbrs]
 unfold due
 rw[List.mem_filter,Bool.or_eq_true,decide_eq_true_iff,decide_eq_true_iff]
 constructor
 ·rintro (z|z)
  ·exact ⟨(T.ties _ z).1, .inr z⟩
  ·exact ⟨(T.ties _ z).2.1, .inl z⟩
 ·rintro ⟨_,z|z⟩
  ·exact .inr z
  ·exact .inl z
theorem zeJ:∀{xs ys:List Str},PyData.eqvAll (zt xs) (zt ys)=decide (xs=ys)
 |[],[]=>by unfold zt;rw[List.map_nil,PyData.eqvAll];rfl
 |[],y::ys=>by unfold zt;rw[List.map_nil,List.map_cons,PyData.eqvAll];rfl
 |x::xs,[]=>by unfold zt;rw[List.map_nil,List.map_cons,PyData.eqvAll];rfl
 |x::xs,y::ys=>by
  have ih:=zeJ (xs:=xs) (ys:=ys)
  unfold zt at ih⊢
  rw[List.map_cons,List.map_cons,PyData.eqvAll,PyData.eqv,ih,Bool.eq_iff_iff,decide_eq_true_iff,List.cons.injEq]
  simp
theorem zbN:∀{xs:List Str},PyData.depthAll (zt xs)<=1
 |[]=>by unfold zt;rw[List.map_nil,PyData.depthAll];decide
 |x::xs=>by
  have ih:=zbN (xs:=xs)
  unfold zt at ih⊢
  rw[List.map_cons,PyData.depthAll,PyData.depth]
  omega
end RW
namespace L2
open PySem PySem.Spec PyProof.Rows
structure FunD(K:PySem.W.Frag)(x qual:Str)(st:Stmt)(f:Addr)(fd:FuncData):Prop where
 ex:∃(oc:Value) (od:Option Addr) (dt:Addr) (kV doc pm:Value) (an:Option Addr) (cdv ct:Value) (osl:Array (Option Value)) (od2:Option Addr) (n2:Nat) (sl2:Array (Option Value)),
  fd=PySem.W.fnOf x qual (zq st) (zo st) (zd st) (.ref dt) kV doc pm an cdv ct/\K.lookup f=some ⟨oc,od, .func fd,osl⟩/\PySem.W.codeIn K cdv qual=true/\K.lookup dt=some ⟨.type "tuple",od2, .seq #[.none] n2,sl2⟩
 kp:PySem.W.keepIn K (.ref f)=true
section
variable{P:Program}{w:World}{K:PySem.W.Frag}{mg:Str->Option Value}{base:Heap}
theorem FunD.okQ{x qual:Str}{st:Stmt}{f:Addr}{fd:FuncData}{N ps:List Str}{k:Nat}{sp:Sp}(F:FunD K x qual st f fd)(S:FnScope N ps (zd st))(len:∀vs H Q E,sp vs H Q E->vs.length=ps.length)
 (hbody:∀(cdv:Value) (A:Around) (outer:List Env) (s:Shared) (H:Hp) (vs:List V) (Q:VK) (E:XK),Room k (A.deeper (envOfC qual (zd st) s.heap.objs.size f cdv))->sp vs H Q E->
   ∃t,QB (zhN CX0 P w K mg base N qual (zd st) f cdv A outer s H E).nox (zo st) t/\t {nx:=λ_ H'=>Q .non H',rt:=Q} (zdD N vs) H):FnOk P w K mg base CX0 (k+1) f fd ps sp:=by
 obtain⟨oc,od,dt,kV,doc,pm,an,cdv,ct,osl,od2,n2,sl2,rfl,lk,hcd,ld⟩:=F.ex
 refine zo6 lk hcd S len λA outer s H vs Q E hr hsp=>?_
 obtain⟨t,h,q⟩:=hbody cdv A outer s H vs Q E hr hsp
 exact⟨t,h.o.nox,q⟩
theorem zkp{x qual:Str}{st:Stmt}{f dt:Addr}{oc:Value}{od an od2:Option Addr}{osl sl2:Array (Option Value)}{n2:Nat}{kV doc pm cdv ct:Value}(l:K.lookup f=some ⟨oc,od, .func (PySem.W.fnOf x qual (zq st) (zo st) (zd st) (.ref dt) kV doc pm an cdv ct),osl⟩)
 (ld:K.lookup dt=some ⟨.type "tuple",od2, .seq #[.none] n2,sl2⟩) (c:PySem.W.codeIn K cdv qual=true) (k:PySem.W.keepIn K (.ref f)=true):FunD K x qual st f (PySem.W.fnOf x qual (zq st) (zo st) (zd st) (.ref dt) kV doc pm an cdv ct):=⟨⟨oc,od,dt,kV,doc,pm,an,cdv,ct,osl,od2,n2,sl2,rfl,l,c,ld⟩,k⟩
theorem FunD.binds{x qual:Str}{st:Stmt}{f:Addr}{fd:FuncData}{ps:List Str}{ds:List Value}(F:FunD K x qual st f fd)(m:Nat)(hm:ps.length=m+ds.length)
 (h:∀(dt:Addr) (kV doc pm:Value) (an:Option Addr) (cdv ct:Value) (us:List Value),us.length=m->∃k:Option (Array Value)->Sem (List (Str×Value)),bindArgs (PySem.W.fnOf x qual (zq st) (zo st) (zd st) (.ref dt) kV doc pm an cdv ct) ⟨us,[]⟩=seqItems? (.ref dt)>>=k/\k (some #[.none])=pure (ps.zip (us ++ds))):Binds K fd ps ds:=by
 obtain⟨oc,od,dt,kV,doc,pm,an,cdv,ct,osl,od2,n2,sl2,rfl,lk,hcd,ld⟩:=F.ex
 intro s us kin hl
 obtain⟨k,e1,e2⟩:=h dt kV doc pm an cdv ct us (by rw[List.length_append] at hl;omega)
 exact BindsTo.of_defaults (T:=dt) rfl (kin _ _ ld) rfl e1 e2
end
end L2
namespace RW
open PySem PySem.Spec PyProof.Rows L2
structure AtD(K:PySem.W.Frag)(mg:Str->Option Value)(x:Str)(st:Stmt)(ps:List Str)(f:Addr)(fd:FuncData):Prop where
 fn:FunD K x x st f fd
 b:Binds K fd ps []
 bd:Binds K fd ps [.none]
 mg:mg x=some (.ref f)
 kp:PySem.W.keepIn K (.ref f)=true
noncomputable def zaa(O:List Str):D->Bool| .tup [_, .str x]=>decide (x∈O)|_=>true
noncomputable def zcd(O:List Str):D->Bool| .tup [.str w,e]=>if w="not"then zaa O e else zaa O (.tup [.str w,e])|_=>true
noncomputable def zn8(O:List Str):D->Bool| .tup ds=>ds.all (zcd O)|_=>true
noncomputable def zhg(O:List Str):D->Bool| .tup [c,t]=>zn8 O c&&zaa O t|_=>true
noncomputable def zcu(O:List Str):D->Bool| .tup ds=>ds.all (zhg O)|_=>true
structure Pool(hs:List Str)(lks hds:List D)(O:List Str):Prop where
 few:O.length<=14
 nm:∀x∈O,zi x=true
 hs:∀x∈hs,x∈O
 lk:∀d∈lks,zcu O d=true
 hd:∀d∈hds,zcu O d=true
noncomputable def zhu(O:List Str)(d:D):Bool:=zS d&&zhg O d
noncomputable def zho(O:List Str)(d:D):Bool:=zb6 d&&zhg O d
theorem zbV{O:List Str}{y:D}{x:Str}(h:x∈O):zaa O (.tup [y, .str x])=true:=decide_eq_true h
theorem zhf{O:List Str}{w:Str}{e:D}(h:zG (.tup [.str w,e])=true)(hp:zaa O (.tup [.str w,e])=true):zcd O (.tup [.str w,e])=true:=by
 show(if w="not"then _ else _)=true
 by_cases z:w="not"
 ·subst z;rw[zdv] at h;cases h
 ·rw[if_neg z];exact hp
theorem zkL{O:List Str}{d:D}(h:zG d=true)(hp:zaa O d=true):zcd O d=true:=by
 obtain⟨x,e,rfl⟩:=zcn d h
 exact zhf h hp
theorem zi4{O:List Str}{d:D}(hp:zaa O d=true):zcd O (.tup [.str "not",d])=true:=by
 show(if("not":Str)="not"then zaa O d else zaa O (.tup [.str "not",d]))=true
 rw[if_pos rfl];exact hp
theorem zgv{O:List Str}{ds:List D}{t:D}(h:∀d∈ds,zcd O d=true)(ht:zaa O t=true):zhg O (.tup [.tup ds,t])=true:=by
 show(ds.all (zcd O)&&zaa O t)=true
 rw[List.all_eq_true.mpr h,ht];rfl
end RW
namespace L2
open PySem PySem.Spec PyProof.Rows
section
variable{X:Cx}{pos:Pos}{pins:List (Addr×Obj)}{σ:St}{H:Hp}{s:Shared}
theorem zfW{P:Program}{w:World}:∀{es:List DictEntry} {kvs:List (Key×Value)},Pairs (zU P w) es kvs->Vals (kvs.map λkv=>kV kv.1) (es.map (·.key))
 |_,_, .nil=> .nil
 |_,_, .cons (e:=e) (kv:=kv) h1 h2 h3=>by
  refine .cons ?_ (zfW h3)
  have h1:zfh kv.1 e.key=true:=h1
  rcases z6 h1 with⟨i,t,a,b⟩|⟨x,t,a,b⟩
  ·show RelV (kV kv.1) e.key
   rw[a,b];exact⟨t,rfl⟩
  ·show RelV (kV kv.1) e.key
   rw[a,b];exact⟨t,rfl⟩
theorem ze1:∀{kvs:List (Key×V)} {vs:List (Key×Value)},KV kvs vs->kvs.map (·.1)=vs.map (·.1)
 |_,_, .nil=>rfl
 |_,_, .cons h t=>by rw[List.map_cons,List.map_cons,h.1,ze1 t]
end
end L2
namespace RW
open PySem PySem.Spec PyProof.Rows L2
noncomputable def phB(ws ms:List Str)(to:Option Str)(w:Str)(x:D):Bool:=
 if w="by"then (match x with| .str y=>ws.any λz=>decide (z=y)|_=>false)
 else if w="from"then (match x with| .str y=>decide (ws[1]?=some y)|_=>false)
 else if w="to"then (match x with| .str y=>decide (to=some y)|_=>false)
 else if w="mark"then (match x with| .str y=>ms.any λz=>decide (z=y)|_=>false)
 else(match x with| .int i=>decide (i<(ws.length:Int))|_=>false)
noncomputable def zeF(ws ms:List Str)(to:Option Str):D->Bool| .tup [.str w,x]=>phB ws ms to w x|_=>false
noncomputable def zcY(ws ms:List Str)(to:Option Str):D->Bool| .tup [.str w,x]=>if w="not"then !zeF ws ms to x else phB ws ms to w x|_=>false
def TO(v:V)(to:Option Str):Prop:=(v= .non/\to=none)\/∃x,v= .str x/\to=some x/\zi x=true
theorem zbm{x:Str}{e:D}(h:zG (.tup [.str x,e])=true):(x="long"/\∃i:Int,e= .int i/\0<=i/\i<=99)\/(x∈namingL/\∃y,e= .str y/\zi y=true):=by
 rw[zef] at h
 by_cases z:x="long"
 ·rw[if_pos z] at h
  cases e with
  |int i=>
   have h:(decide (0<=i)&&decide (i<=99))=true:=h
   rw[Bool.and_eq_true,decide_eq_true_iff,decide_eq_true_iff] at h
   exact .inl ⟨z,i,rfl,h.1,h.2⟩
  |_=>cases h
 ·rw[if_neg z,Bool.and_eq_true] at h
  obtain⟨h1,h2⟩:=h
  obtain⟨y,hy,ey⟩:=List.any_eq_true.mp h1
  have ey:y=x:=of_decide_eq_true ey
  subst ey
  cases e with
  |str y'=>exact .inr ⟨hy,y',rfl,h2⟩
  |_=>cases h2
theorem zdX{x:Str}(h:x∈namingL):x="by"\/x="from"\/x="to"\/x="mark":=by
 unfold namingL at h
 simpa using h
theorem zqG{ws ms:List Str}{to:Option Str}{y:Str}:phB ws ms to "by" (.str y)=ws.any λz=>decide (z=y):=by
 unfold phB;rw[if_pos rfl]
theorem zna{ws ms:List Str}{to:Option Str}{y:Str}:phB ws ms to "from" (.str y)=decide (ws[1]?=some y):=by
 unfold phB;rw[if_neg (by decide +kernel),if_pos rfl]
theorem zqg{ws ms:List Str}{to:Option Str}{y:Str}:phB ws ms to "to" (.str y)=decide (to=some y):=by
 unfold phB;rw[if_neg (by decide +kernel),if_neg (by decide +kernel),if_pos rfl]
theorem zm9{ws ms:List Str}{to:Option Str}{y:Str}:phB ws ms to "mark" (.str y)=ms.any λz=>decide (z=y):=by
 unfold phB;rw[if_neg (by decide +kernel),if_neg (by decide +kernel),if_neg (by decide +kernel),if_pos rfl]
theorem zoe{ws ms:List Str}{to:Option Str}{i:Int}:phB ws ms to "long" (.int i)=decide (i<(ws.length:Int)):=by
 unfold phB;rw[if_neg (by decide +kernel),if_neg (by decide +kernel),if_neg (by decide +kernel),if_neg (by decide +kernel)]
theorem TO.eq{v:V}{to:Option Str}{y:Str}(h:TO v to):zp3 v (.str y)=true/\decide (v= .str y)=decide (to=some y):=by
 rcases h with⟨rfl,rfl⟩|⟨x,rfl,rfl,_⟩
 ·exact ⟨rfl,rfl⟩
 ·refine ⟨rfl,?_⟩
  rw[zbD,Bool.eq_iff_iff,decide_eq_true_iff,decide_eq_true_iff,Option.some.injEq]
theorem zdL{H:Hp}{p:Addr}{xs:List Str}(e:H p=some (.tup (xs.map V.str)))(h:∀x∈xs,PyData.strOk x=true):Tr H (.ref p) (.tuple (zt xs)):=by
 refine .tup e (by unfold zt;rw[List.length_map,List.length_map]) λi v d e1 e2=>?_
 unfold zt at e2
 rw[List.getElem?_map] at e1 e2
 cases e3:xs[i]? with
 |none=>rw[e3] at e1;cases e1
 |some x=>
  rw[e3] at e1 e2
  cases e1
  cases e2
  exact .str x (h x (List.mem_of_getElem? e3))
theorem zcJ{xs ys:List Str}:(PyData.tuple (zt xs)).eqv (.tuple (zt ys))=decide (xs=ys):=by
 rw[PyData.eqv,zeJ]
theorem zdh{xs:List Str}:(PyData.tuple (zt xs)).depth<=60:=by
 have:=zbN (xs:=xs)
 rw[PyData.depth]
 omega
noncomputable def zea(c:D->Bool)(g:List Str->List Str->Option Str->D->Bool):Sp:=λvs H Q _=>∃(v:V) (d:D) (pw pm:Addr) (vt:V) (ws ms:List Str) (to:Option Str),vs=[v, .ref pw, .ref pm,vt]/\Rep H v d/\c d=true/\H pw=some (.tup (ws.map V.str))/\H pm=some (.tup (ms.map V.str))/\TO vt to/\(∀x∈ws,zi x=true)/\(∀x∈ms,zi x=true)/\1<=ws.length/\ws.length<=100/\ms.length<=100/\∀H',Same H H'->Q (.bl (g ws ms to d)) H'
theorem zfj{c:D}(h:zaG c=true):∃cs,c= .tup cs/\cs.length<=4/\∀d∈cs,zL d=true:=by
 cases c with
 |tup cs=>
  rw[zhW,Bool.and_eq_true] at h
  exact⟨cs,rfl,of_decide_eq_true h.1,List.all_eq_true.mp h.2⟩
 |_=>cases h
theorem zjg{d:D}{f:D->D->Bool}(h:(match d with| .tup [c,x]=>f c x|_=>false)=true):∃c x,d= .tup [c,x]/\f c x=true:=by
 split at h
 ·exact ⟨_,_,rfl,h⟩
 ·cases h
theorem zgz{d:D}(h:zS d=true):∃cs x,d= .tup [.tup cs,x]/\cs.length<=4/\(∀c∈cs,zL c=true)/\(x= .non\/∃i,x= .int i):=by
 unfold zS at h
 obtain⟨c,x,rfl,h⟩:=zjg (f:=λc x=>zaG c&&zbU x&&!zd8 c) h
 rw[Bool.and_eq_true,Bool.and_eq_true] at h
 obtain⟨cs,rfl,h4,hc⟩:=zfj h.1.1
 refine⟨cs,x,rfl,h4,hc,?_⟩
 have hx:=h.1.2
 cases x with
 |non=>exact .inl rfl
 |int i=>exact .inr ⟨i,rfl⟩
 |_=>cases hx
theorem zlt{x:D}(h:zcf x=true):(x= .tup [.str "keep"])\/∃w y,x= .tup [.str w, .str y]/\(w="put"\/w="strike")/\zi y=true:=by
 unfold zcf at h
 split at h
 ·rename_i w
  exact .inl (by rw[of_decide_eq_true h])
 ·rename_i w y
  rw[Bool.and_eq_true,Bool.or_eq_true] at h
  have h2:=h.2
  cases y with
  |str y=>exact .inr ⟨w,y,rfl,h.1.imp of_decide_eq_true of_decide_eq_true,h2⟩
  |_=>cases h2
 ·cases h
theorem zjZ{d:D}(h:zb6 d=true):∃cs x,d= .tup [.tup cs,x]/\cs.length<=4/\(∀c∈cs,zL c=true)/\zcf x=true:=by
 unfold zb6 at h
 obtain⟨c,x,rfl,h⟩:=zjg (f:=λc x=>zaG c&&zcf x) h
 rw[Bool.and_eq_true] at h
 obtain⟨cs,rfl,h4,hc⟩:=zfj h.1
 exact⟨cs,x,rfl,h4,hc,h.2⟩
section
variable{te tf:TE}{ta:TA}{tb:TS}{De:Ends}{σ:L2.St}{H:Hp}{d:D}{ds es:List D}{K:PySem.W.Frag}{k:Nat}
end
end RW
namespace HT
open PySem PySem.Spec PyProof.Rows
section
variable{prog:Program}{w:World}{A:Around}{E:Value->Shared->Prop}{s:Shared}
theorem zeK:∀{vs:List Value} {ys:List Str},StrsAre vs ys->vs.length=ys.length/\∀(i:Nat) (y:Str),ys[i]?=some y->∃t,vs[i]?=some (.str y t)
 |_,_, .nil=>⟨rfl,λi y h=>by simp at h⟩
 |_,_, .cons y t r=>by
  obtain⟨h1,h2⟩:=zeK r
  refine⟨by simp[h1],λi z h=>?_⟩
  cases i with
  |zero=>cases h;exact⟨t,rfl⟩
  |succ i=>exact h2 i z h
theorem index_tup{t:Addr}{items:Array Value}{ys:List Str}{x:Str}{tk:Tok}{j:Nat}{Q:Value->Shared->Prop}(ht:IsTup s.heap t items)(hS:StrsAre items.toList ys)(hj:ys[j]?=some x)(hb:∀i<j,ys[i]?≠some x)
 (h:∀(t':Tok) (k:Nat),Q (.int j t') {s with toks:=k}):wpAny (model prog w) A (call (.builtin "tuple.index") [.ref t, .str x tk]) Q E s:=by
 refine wpAny_call_entry PySem.F.slot_tuple_index ht.typeIs PySem.F.entry_tuple_index ?_ (PySem.F.args_tuple_index_2 _ _)
 unfold Builtin.«tuple.index»
 refine wpAny_bind (m:=selfAndSome "tuple.index" "index" 1 3 _) (wpAny_pure ?_)
 dsimp only
 refine wpAny_bind (tupleItemsOf_ ht ?_)
 refine wpAny_bind (wpAny_pure ?_)
 refine wpAny_bind (wpAny_pure ?_)
 obtain⟨hl,hg⟩:=zeK hS
 have hjn:j<items.size:=by
  rw[←Array.length_toList,hl]
  rcases Nat.lt_or_ge j ys.length with z|z
  ·exact z
  ·rw[List.getElem?_eq_none z] at hj;cases hj
 rw[Std.Legacy.Range.forIn_eq_forIn_range']
 refine wpAny_bind (wpAny_forIn_list _ (λl b s'=>∃i,l=List.range' i (items.size -i) 1/\i<=j/\b=(none,())/\s'=s) _ ?_ ?_ _ _ ?_)
 ·rintro a rest b s' ⟨i,el,hij,rfl,rfl⟩
  obtain⟨m,em⟩:∃m,items.size -i=m+1:=⟨items.size -i -1,by omega⟩
  rw[em,List.range'_succ] at el
  have ea:=(List.cons.inj el).1
  have er:=(List.cons.inj el).2
  subst er
  rw[ea]
  have hiy:i<ys.length:=by rw[←hl,Array.length_toList];omega
  obtain⟨t1,e1⟩:=hg i ys[i] (by simp[hiy])
  have e2:items[i]?=some (.str ys[i] t1):=by rw[←Array.getElem?_toList];exact e1
  rw[e2]
  dsimp only
  refine wpAny_bind (wpAny_eqBool_str ?_)
  rcases Nat.lt_or_ge i j with z|z
  ·have ne:¬ys[i]=x:=λy=>hb i z (by rw[←y];simp[hiy])
   rw[decide_eq_false ne]
   exact wpAny_pure ⟨i+1,by rw[show items.size -(i+1)=m by omega],by omega,rfl,rfl⟩
  ·have ei:i=j:=by omega
   subst ei
   have ey:ys[i]=x:=by
    have:ys[i]?=some ys[i]:=by simp[hiy]
    rw[this] at hj;exact Option.some.inj hj
   rw[decide_eq_true ey]
   refine wpAny_bind (m:=retInt _) (wpAny_bind (wpAny_mkInt (wpAny_pure (wpAny_pure ?_))))
   exact wpAny_pure ⟨_,rfl,h _ _⟩
 ·rintro b s' ⟨i,el,hij,rfl,rfl⟩
  have:=congrArg List.length el
  rw[List.length_range',List.length_nil] at this
  omega
 ·exact ⟨0,by simp[Std.Legacy.Range.size],Nat.zero_le _,rfl,rfl⟩
end
section
variable{prog:Program}{w:World}{A:Around}{E:Value->Shared->Prop}{s:Shared}
end
section
variable{prog:Program}{w:World}{A:Around}{E:Value->Shared->Prop}{s:Shared}
end
end HT
namespace L2
open PySem PySem.Spec PyProof.Rows
section
variable{X:Cx}{K:PySem.W.Frag}
def znu(K:PySem.W.Frag):V->List V->Hp->VK->Prop:=λx vs H Q=>∃(p:Addr) (ys:List Str) (y:Str) (j:Nat),x= .ref p/\vs=[.str y]/\SqT K H p (ys.map V.str)/\ys[j]?=some y/\(∀i<j,ys[i]?≠some y)/\Q (.int (j:Int)) H
theorem zgE:MtR X "tuple.index" (znu X.K):=by
 intro pins s σ H x xs v us Q I rx rs h
 obtain⟨p,ys,y,j,rfl,rfl,hq,hj,hb,q⟩:=h
 cases rx
 obtain⟨u,rfl,ru⟩:=zc8 rs
 obtain⟨t,rfl⟩:=ru
 obtain⟨its,rv,pl,hz⟩:=I.tuple hq
 exact HT.index_tup pl (by simpa using za9 rv) hj hb λt' k=>⟨.int _,H,I.tok _,⟨_,rfl⟩,q⟩
end
end L2
namespace RW
open PySem PySem.Spec PyProof.Rows L2
theorem zl7{hs:List Str}(nd:hs.Nodup){x:Str}{i j:Nat}(h1:hs[i]?=some x)(h2:hs[j]?=some x):i=j:=by
 have lt:∀{k:Nat},hs[k]?=some x->k<hs.length:=λ{k} z=>by
  rcases Nat.lt_or_ge k hs.length with y|y
  ·exact y
  ·rw[List.getElem?_eq_none y] at z;cases z
 have l1:=lt h1
 have l2:=lt h2
 rw[List.getElem?_eq_getElem l1] at h1
 rw[List.getElem?_eq_getElem l2] at h2
 have e:hs[i]=hs[j]:=(Option.some.inj h1).trans (Option.some.inj h2).symm
 have pw:=List.pairwise_iff_getElem.mp nd
 rcases Nat.lt_trichotomy i j with z|z|z
 ·exact absurd e (pw i j l1 l2 z)
 ·exact z
 ·exact absurd e.symm (pw j i l2 l1 z)
theorem zhK{hs:List Str}(nd:hs.Nodup){x:Str}{j:Nat}(h:hs[j]?=some x):∀i<j,hs[i]?≠some x:=λi hi z=>by
 have:=zl7 nd z h
 omega
noncomputable def zeX(ws ms:List Str)(to:Option Str)(cs:List D):Bool:=cs.all (zcY ws ms to)
noncomputable def ziq:D->List D| .tup [.tup cs,_]=>cs|_=> []
noncomputable def zmb:D->D| .tup [_,t]=>t|_=> .non
noncomputable def zT(ws ms:List Str):List D->D
 |[]=> .int 0
 |r::rs=>if zeX ws ms none (ziq r)=true then zmb r else zT ws ms rs
noncomputable def zjL:Sp:=λvs H Q _=>∃(v:V) (cs:List D) (pw pm:Addr) (vt:V) (ws ms:List Str) (to:Option Str),vs=[v, .ref pw, .ref pm,vt]/\Rep H v (.tup cs)/\(∀c∈cs,zL c=true)/\H pw=some (.tup (ws.map V.str))/\H pm=some (.tup (ms.map V.str))/\TO vt to/\(∀x∈ws,zi x=true)/\(∀x∈ms,zi x=true)/\1<=ws.length/\ws.length<=100/\ms.length<=100/\∀H',Same H H'->Q (.bl (zeX ws ms to cs)) H'
noncomputable def zqx:Sp:=λvs H Q _=>∃(v:V) (x:Str) (g:Str) (hs:List Str) (ps:List (Str×Str)) (lks hds:List D) (j:Nat),vs=[v, .str x]/\Rep H v (zaf g hs ps lks hds)/\TownOk g hs ps lks hds/\hs[j]?=some x/\∀(vr:V) (d:D),lks[j]?=some d->Rep H vr d->Q vr H
noncomputable def ze7:Sp:=λvs H Q _=>∃(v:V) (pw pm:Addr) (x:Str) (ws ms:List Str) (g:Str) (hs:List Str) (ps:List (Str×Str)) (lks hds:List D) (j:Nat) (rs:List D),vs=[v, .ref pw, .ref pm]/\Rep H v (zaf g hs ps lks hds)/\TownOk g hs ps lks hds/\hs[j]?=some x/\lks[j]?=some (.tup rs)/\H pw=some (.tup ((x::ws).map V.str))/\H pm=some (.tup (ms.map V.str))/\(∀y∈x::ws,zi y=true)/\(∀y∈ms,zi y=true)/\ws.length<=90/\ms.length<=100/\∀(u:V) (H':Hp),Rep H' u (zT (x::ws) ms rs)->Same H H'->Q u H'
theorem zpF{g:Str}{hs:List Str}{ps:List (Str×Str)}{lks hds:List D}(T:TownOk g hs ps lks hds){x:Str}(h:x∈hs):∃(j:Nat) (rs:List D),hs[j]?=some x/\lks[j]?=some (.tup rs)/\rs.length<=90/\∀r∈rs,zS r=true:=by
 obtain⟨j,hj,e⟩:=List.getElem_of_mem h
 have hl:j<lks.length:=by rw[T.ll];exact hj
 have hlk:=T.likes lks[j] (List.getElem_mem hl)
 cases hd:lks[j] with
 |tup rs=>
  rw[hd] at hlk
  have h:(decide (rs.length<=90)&&rs.all zS)=true:=hlk
  rw[Bool.and_eq_true] at h
  exact⟨j,rs,by rw[List.getElem?_eq_getElem hj,e],by rw[List.getElem?_eq_getElem hl,hd],of_decide_eq_true h.1,List.all_eq_true.mp h.2⟩
 |_=>rw[hd] at hlk;cases hlk
theorem zkn{α:Type}{rs:List α}{i:Nat}{d:α}(h:rs[i]?=some d):rs.drop i=d::rs.drop (i+1):=by
 have hi:i<rs.length:=by
  rcases Nat.lt_or_ge i rs.length with y|y
  ·exact y
  ·rw[List.getElem?_eq_none y] at h;cases h
 rw[List.drop_eq_getElem_cons hi]
 rw[List.getElem?_eq_getElem hi] at h
 rw[Option.some.inj h]
mutual
noncomputable def okD:D->Bool
 | .str x=>PyData.strOk x
 | .tup ds=>okL ds
 | .oth=>false
 | .non=>true
 | .bl _=>true
 | .int _=>true
noncomputable def okL:List D->Bool
 |[]=>true
 |d::ds=>okD d&&okL ds
end
mutual
noncomputable def pyD:D->PyData
 | .non=> .none
 | .bl b=> .bool b
 | .int i=> .int i
 | .str x=> .str x
 | .tup ds=> .tuple (pyL ds)
 | .oth=> .none
noncomputable def pyL:List D->List PyData
 |[]=> []
 |d::ds=>pyD d::pyL ds
end
theorem ze6:∀{ds:List D},pyL ds=ds.map pyD
 |[]=>by rw[pyL];rfl
 |d::ds=>by rw[pyL,List.map_cons,ze6]
theorem zkc:∀{ds:List D},okL ds=true->∀d∈ds,okD d=true
 |[],_,_,z=>nomatch z
 |d::ds,h,e,he=>by
  rw[okL,Bool.and_eq_true] at h
  rcases List.mem_cons.mp he with rfl|he
  ·exact h.1
  ·exact zkc h.2 e he
theorem zmY:∀{ds:List D},(∀d∈ds,okD d=true)->okL ds=true
 |[],_=>by rw[okL]
 |d::ds,h=>by rw[okL,h d List.mem_cons_self,zmY λe he=>h e (List.mem_cons_of_mem _ he)];rfl
noncomputable def leS(a b:Str):Bool:=!ltS b a
noncomputable def srt(l:List Str):List Str:=l.mergeSort leS
theorem zlK(a b c:Str)(h1:leS a b=true)(h2:leS b c=true):leS a c=true:=by
 unfold leS at *
 rw[Bool.not_eq_true'] at *
 cases h:ltS c a with
 |false=>rfl
 |true=>
  by_cases e:a=b
  ·subst e;rw[h] at h2;cases h2
  ·have ab:ltS a b=true:=zc0 (λz=>e z.symm) h1
   have:=zfz h ab
   rw[this] at h2;cases h2
theorem zom(a b:Str):(leS a b||leS b a)=true:=by
 unfold leS
 cases h:ltS b a with
 |false=>rfl
 |true=>rw[ze2 h];rfl
theorem zfA(l:List Str):(srt l).Perm l:=List.mergeSort_perm l leS
noncomputable def zbK(t:List Str)(w m:Str):List Str:=t.filter (λx=>!decide (x=m))++(if w="put"then [m] else [])
noncomputable def zfH(t:List Str)(w m:Str):List Str:=srt (zbK t w m)
structure Mk(O t:List Str):Prop where
 nd:t.Nodup
 mem:∀x∈t,x∈O
noncomputable def zQ(ws:List Str)(to:Option Str):List D->List Str->Option (List Str)
 |[],t=>some t
 |r::rs,t=>if zeX ws t to (ziq r)=true then(match zmb r with| .tup [.str w, .str m]=>zQ ws to rs (zfH t w m)|_=>none)else zQ ws to rs t
def zqk(H:Hp)(u:V):Option (List Str)->Prop
 |none=>u= .non
 |some t=>∃p,u= .ref p/\H p=some (.tup (t.map V.str))
noncomputable def zqv:Sp:=λvs H Q _=>∃(v:V) (x:Str) (g:Str) (hs:List Str) (ps:List (Str×Str)) (lks hds:List D) (j:Nat),vs=[v, .str x]/\Rep H v (zaf g hs ps lks hds)/\TownOk g hs ps lks hds/\hs[j]?=some x/\∀(vr:V) (d:D),hds[j]?=some d->Rep H vr d->Q vr H
theorem zph{g:Str}{hs:List Str}{ps:List (Str×Str)}{lks hds:List D}(T:TownOk g hs ps lks hds){x:Str}(h:x∈hs):∃(j:Nat) (d:D),hs[j]?=some x/\hds[j]?=some d/\d∈hds:=by
 obtain⟨j,hj,e⟩:=List.getElem_of_mem h
 have hl:j<hds.length:=by rw[T.lh];exact hj
 exact⟨j,hds[j],by rw[List.getElem?_eq_getElem hj,e],List.getElem?_eq_getElem hl,List.getElem_mem hl⟩
noncomputable def neD(m:Str):D->Bool| .str z=>!decide (z=m)|_=>false
theorem zp5{t:List Str}{m:Str}:((t.map D.str).filter (neD m)).map (λd=>d)=(t.filter λx=>!decide (x=m)).map D.str:=by
 rw[List.map_id',List.filter_map];rfl
end RW
namespace L2
open PySem PySem.W PySem.Spec PyProof.Rows
section
open PySem.SeqAt
open PySem.AutoSeq1 (wpAny_loadPart')
open PySem.MeetsSeq PySem.MeetsSeq2 PySem.MeetsSeq3
theorem zb5(l b:Addr)(n n2:Nat)(dd dd2:Option Addr)(sl sl2:Array (Option Value))(xs ys:List Value)(k:Nat)(res:Bool):
 Meets (Builtin.«tuple.__lt__» ⟨[.ref l, .ref b],[]⟩) (λA R s=>s.heap.get? l=some {cls:= .type "tuple",dict:=dd,data:= .seq xs.toArray n,slots:=sl}/\s.heap.get? b=some {cls:= .type "tuple",dict:=dd2,data:= .seq ys.toArray n2,slots:=sl2}/\
  (∀prog w i x y,i<k->xs[i]?=some x->ys[i]?=some y->∀(E:Value->Shared->Prop) (Q:Bool->Shared->Prop),Q true s->wpAny (model prog w) A.in1 (eqBool x y) Q E s)/\k<=xs.length/\k<=ys.length/\
  ((k=min xs.length ys.length/\res=decide (xs.length<ys.length))\/∃x y,xs[k]?=some x/\ys[k]?=some y/\(∀prog w (E:Value->Shared->Prop) (Q:Bool->Shared->Prop),Q false s->wpAny (model prog w) A.in1 (eqBool x y) Q E s)/\∀prog w (E:Value->Shared->Prop) (Q:Value->Shared->Prop),Q (.bool res) s->wpAny (model prog w) A.in1 (richCompare .Lt x y) Q E s)/\
  R (.ok (.ret (.bool res))) s):=
 .of_wp λprog w A R s h=>by
  obtain⟨hp,g,d,tk,os⟩:=s
  obtain⟨hl,hb,he,k1,k2,hk,h⟩:=h
  have f2:=AutoSeq1.sub_tuple_tuple
  wp_walk using wpAny_loadPart' hl,wpAny_loadPart' hb,wpAny_forIn_list _ (λrest b s'=>b.1=none/\s'=⟨hp,g,d,tk,os⟩/\∃i,i<=k/\rest=(xs.zip ys).drop i) _
  case turn=>
   rintro⟨p,q⟩ rest b s' ⟨hb',rfl,i,hi,hr⟩
   have hx:(xs.zip ys)[i]?=some (p,q):=by
    have:=congrArg (λl=>l[0]?) hr
    simpa[List.getElem?_drop] using this.symm
   rw[List.getElem?_zip_eq_some] at hx
   have hr2:rest=(xs.zip ys).drop (i+1):=by
    have:=congrArg List.tail hr
    simpa using this
   rcases Nat.lt_or_ge i k with z|z
   ·refine wpAny_bind (he prog w i p q z hx.1 hx.2 _ _ ?_)
    wp_walk
    exact⟨rfl,rfl,i+1,z,hr2⟩
   ·have ei:i=k:=by omega
    subst ei
    rcases hk with⟨hm,_⟩|⟨x,y,ex,ey,f1,f3⟩
    ·have h1:i<xs.length:=by
      rcases Nat.lt_or_ge i xs.length with y|y
      ·exact y
      ·rw[List.getElem?_eq_none y] at hx;cases hx.1
     have h2:i<ys.length:=by
      rcases Nat.lt_or_ge i ys.length with y|y
      ·exact y
      ·rw[List.getElem?_eq_none y] at hx;cases hx.2
     omega
    ·rw[hx.1] at ex
     rw[hx.2] at ey
     cases ex
     cases ey
     refine wpAny_bind (f1 prog w _ _ ?_)
     have c1:=f3 prog w
     wp_walk using c1
     exact⟨_,rfl,h⟩
  case fin=>
   rintro⟨b1,b2⟩ s' ⟨hb',rfl,i,hi,hr⟩
   simp only at hb'
   subst hb'
   have hlen:(xs.zip ys).length<=i:=by
    have:=congrArg List.length hr
    rw[List.length_nil,List.length_drop] at this
    omega
   rw[List.length_zip] at hlen
   rcases hk with⟨hm,hres⟩|⟨x,y,ex,ey,_⟩
   ·wp_walk
    rw[hres] at h
    exact⟨_,rfl,h⟩
   ·have h1:k<xs.length:=by
     rcases Nat.lt_or_ge k xs.length with y|y
     ·exact y
     ·rw[List.getElem?_eq_none y] at ex;cases ex
    have h2:k<ys.length:=by
     rcases Nat.lt_or_ge k ys.length with z|z
     ·exact z
     ·rw[List.getElem?_eq_none z] at ey;cases ey
    omega
  case h=>
   exact⟨rfl,rfl,0,Nat.zero_le _,by simp⟩
end
end L2
namespace L2
open PySem PySem.W PySem.Spec PyProof.Rows RW
noncomputable def ltL:List Str->List Str->Bool
 |[],[]=>false
 |[],_::_=>true
 |_::_,[]=>false
 |x::xs,y::ys=>if x=y then ltL xs ys else ltS x y
theorem zlB:∀(ps qs:List Str),∃k,k<=ps.length/\k<=qs.length/\(∀i<k,ps[i]?=qs[i]?)/\((k=min ps.length qs.length/\ltL ps qs=decide (ps.length<qs.length))\/∃x y,ps[k]?=some x/\qs[k]?=some y/\x≠y/\ltL ps qs=ltS x y)
 |[],[]=>⟨0,Nat.le_refl _,Nat.le_refl _,λi z=>absurd z (Nat.not_lt_zero _), .inl ⟨rfl,rfl⟩⟩
 |[],q::qs=>⟨0,Nat.le_refl _,Nat.zero_le _,λi z=>absurd z (Nat.not_lt_zero _), .inl ⟨by simp,by rw[ltL];simp⟩⟩
 |p::ps,[]=>⟨0,Nat.zero_le _,Nat.le_refl _,λi z=>absurd z (Nat.not_lt_zero _), .inl ⟨by simp,by rw[ltL];simp⟩⟩
 |p::ps,q::qs=>by
  by_cases e:p=q
  ·subst e
   obtain⟨k,k1,k2,he,hk⟩:=zlB ps qs
   refine⟨k+1,by simp;omega,by simp;omega,λi hi=>?_,?_⟩
   ·cases i with
    |zero=>rfl
    |succ i=>exact he i (by omega)
   ·rw[ltL,if_pos rfl]
    rcases hk with⟨h1,h2⟩|⟨x,y,h1,h2,h3,h4⟩
    ·exact .inl ⟨by simp;omega,by rw[h2];simp⟩
    ·exact .inr ⟨x,y,by simpa using h1,by simpa using h2,h3,h4⟩
  ·exact ⟨0,Nat.zero_le _,Nat.zero_le _,λi z=>absurd z (Nat.not_lt_zero _), .inr ⟨p,q,rfl,rfl,e,by rw[ltL,if_neg e]⟩⟩
section
variable{X:Cx}{K:PySem.W.Frag}
theorem zeg{ps:List Str}{its:List Value}(r:Vals (ps.map V.str) its){i:Nat}{v:Value}(h:its[i]?=some v):∃p t,ps[i]?=some p/\v= .str p t:=by
 have hi:i<its.length:=by
  rcases Nat.lt_or_ge i its.length with z|z
  ·exact z
  ·rw[List.getElem?_eq_none z] at h;cases h
 have hp:i<ps.length:=by have:=r.length;rw[List.length_map] at this;omega
 obtain⟨u,hu,ru⟩:=r.get (i:=i) (x:= .str ps[i]) (by rw[List.getElem?_map,List.getElem?_eq_getElem hp];rfl)
 rw[hu] at h
 cases h
 obtain⟨t,rfl⟩:=ru
 exact⟨ps[i],t,List.getElem?_eq_getElem hp,rfl⟩
theorem ziA{ps:List Str}{its:List Value}(r:Vals (ps.map V.str) its):its.length=ps.length:=by have:=r.length;rw[List.length_map] at this;exact this.symm
theorem ziY{prog:Program}{w:World}{A:Around}{E:Value->Shared->Prop}{s:Shared}{Q:Value->Shared->Prop}{a b:Addr}{ps qs:List Str}{its its2:List Value}(ra:Vals (ps.map V.str) its)(rb:Vals (qs.map V.str) its2)(ha:IsTup s.heap a its.toArray)(hb:IsTup s.heap b its2.toArray)(hu:A.units<cLine)
 (q:Q (.bool (ltL ps qs)) s):wpAny (model prog w) A (richCompare .Lt (.ref a) (.ref b)) Q E s:=by
 obtain⟨⟨c1,d1,e1,f1⟩,ho,hc,n,hd⟩:=id ha
 obtain⟨⟨c2,d2,e2,f2⟩,ho2,hc2,n2,hd2⟩:=id hb
 simp only at hc hd hc2 hd2
 subst hc hd hc2 hd2
 obtain⟨k,k1,k2,he,hk⟩:=zlB ps qs
 have l1:=ziA ra
 have l2:=ziA rb
 refine richCompare_meets_room (op:= .Lt) ⟨_,ho,rfl⟩ ⟨_,ho2,rfl⟩ PySem.F.slot_tuple_lt PySem.F.entry_tuple_lt (PySem.F.args_tuple_lt_2 _ _) (zb5 a b n n2 d1 d2 f1 f2 its its2 k (ltL ps qs)) ⟨ho,ho2,?_,by omega,by omega,?_,?_⟩ hu
 ·intro prog w i x y hi hx hy E Q hq
  obtain⟨p,t,hp,rfl⟩:=zeg ra hx
  obtain⟨q',t',hp',rfl⟩:=zeg rb hy
  have e:p=q':=by
   have:=he i hi
   rw[hp,hp'] at this;exact Option.some.inj this
  refine wpAny_eqBool_str ?_
  rw[decide_eq_true e];exact hq
 ·rcases hk with⟨h1,h2⟩|⟨x,y,h1,h2,h3,h4⟩
  ·exact .inl ⟨by omega,by rw[h2,l1,l2]⟩
  ·have hx:k<its.length:=by
    rw[l1]
    rcases Nat.lt_or_ge k ps.length with z|z
    ·exact z
    ·rw[List.getElem?_eq_none z] at h1;cases h1
   have hy:k<its2.length:=by
    rw[l2]
    rcases Nat.lt_or_ge k qs.length with z|z
    ·exact z
    ·rw[List.getElem?_eq_none z] at h2;cases h2
   obtain⟨p,t,hp,e1⟩:=zeg ra (List.getElem?_eq_getElem hx)
   obtain⟨q',t',hp',e2⟩:=zeg rb (List.getElem?_eq_getElem hy)
   rw[h1] at hp
   rw[h2] at hp'
   cases hp
   cases hp'
   refine .inr ⟨_,_,List.getElem?_eq_getElem hx,List.getElem?_eq_getElem hy,λprog w E Q hq=>?_,λprog w E Q hq=>?_⟩
   ·rw[e1,e2]
    refine wpAny_eqBool_str ?_
    rw[decide_eq_false h3];exact hq
   ·rw[e1,e2]
    rw[h4] at hq
    exact(PyProof.Rows.lt_str hq:wpAny (model prog w) A.in1 (compareOp .Lt (.str x t) (.str y t')) Q E s)
 ·exact ⟨(λx=>nomatch x),q⟩
noncomputable def ltK(k1 k2:Int×Int×List Str):Bool:=if k1.1=k2.1 then(if k1.2.1=k2.2.1 then ltL k1.2.2 k2.2.2 else decide (k1.2.1<k2.2.1))else decide (k1.1<k2.1)
def zmi(H:Hp)(x:V)(k:Int×Int×List Str):Prop:=∃a p,x= .ref a/\H a=some (.tup [.int k.1, .int k.2.1, .ref p])/\H p=some (.tup (k.2.2.map V.str))/\∀y∈k.2.2,PyData.strOk y=true
theorem ze3:∀(ps:List Str),ltL ps ps=false
 |[]=>rfl
 |p::ps=>by rw[ltL,if_pos rfl];exact ze3 ps
theorem zjr{x y z:V}{us:List Value}(r:Vals [x,y,z] us):∃a b c,us=[a,b,c]/\RelV x a/\RelV y b/\RelV z c:=by
 cases r with
 |cons h1 r=>cases r with
  |cons h2 r=>cases r with
   |cons h3 r=>
    cases r
    exact⟨_,_,_,rfl,h1,h2,h3⟩
noncomputable def zq7:R2:=λx y H Q=>∃k1 k2,zmi H x k1/\zmi H y k2/\Q (.bl (ltK k1 k2)) H
theorem zpM(hu:X.A.units+64<cLine):OpR X (compareOp .Lt) zq7:=by
 intro pins s σ H x y v u Q I rx ry h
 obtain⟨⟨i1,n1,ps⟩,⟨i2,n2,qs⟩,⟨a,p,rfl,ha,hp,op⟩,⟨b,p2,rfl,hb,hp2,oq⟩,q⟩:=h
 simp only at ha hp op hb hp2 oq
 cases rx
 cases ry
 obtain⟨its,r1,t1,_⟩:=I.tuple (SqT.of ha)
 obtain⟨its2,r2,t2,_⟩:=I.tuple (SqT.of hb)
 obtain⟨jts,s1,u1,_⟩:=I.tuple (SqT.of hp)
 obtain⟨jts2,s2,u2,_⟩:=I.tuple (SqT.of hp2)
 obtain⟨as,rd1⟩:=(zdL hp op).reads I (.ref p) rfl
 obtain⟨bs,rd2⟩:=(zdL hp2 oq).reads I (.ref p2) rfl
 obtain⟨_,_,_,rfl,x1,x2,x3⟩:=zjr r1
 obtain⟨_,_,_,rfl,y1,y2,y3⟩:=zjr r2
 obtain⟨ti1,rfl⟩:=x1
 obtain⟨tn1,rfl⟩:=x2
 obtain⟨ti2,rfl⟩:=y1
 obtain⟨tn2,rfl⟩:=y2
 cases x3
 cases y3
 obtain⟨⟨c1,d1,e1,f1⟩,ho,hc,m1,hd⟩:=id t1
 obtain⟨⟨c2,d2,e2,f2⟩,ho2,hc2,m2,hd2⟩:=id t2
 simp only at hc hd hc2 hd2
 subst hc hd hc2 hd2
 have mk:∀(k:Nat) (res:Bool),k<=3->ltK (i1,n1,ps) (i2,n2,qs)=res->
  (∀prog w i x y,i<k->([.int i1 ti1, .int n1 tn1, .ref p]:List Value)[i]?=some x->([.int i2 ti2, .int n2 tn2, .ref p2]:List Value)[i]?=some y->∀(E:Value->Shared->Prop) (Q:Bool->Shared->Prop),Q true s->wpAny (model prog w) X.A.in1 (eqBool x y) Q E s)->
  ((k=3/\res=false)\/∃x y,([.int i1 ti1, .int n1 tn1, .ref p]:List Value)[k]?=some x/\([.int i2 ti2, .int n2 tn2, .ref p2]:List Value)[k]?=some y/\(∀prog w (E:Value->Shared->Prop) (Q:Bool->Shared->Prop),Q false s->wpAny (model prog w) X.A.in1 (eqBool x y) Q E s)/\∀prog w (E:Value->Shared->Prop) (Q:Value->Shared->Prop),Q (.bool res) s->wpAny (model prog w) X.A.in1 (richCompare .Lt x y) Q E s)->
  wpAny (model X.prog X.w) X.A (richCompare .Lt (.ref a) (.ref b)) (EP X pins σ Q) X.xe s:=by
  intro k res hk3 er he hk
  refine richCompare_meets_room (op:= .Lt) ⟨_,ho,rfl⟩ ⟨_,ho2,rfl⟩ PySem.F.slot_tuple_lt PySem.F.entry_tuple_lt (PySem.F.args_tuple_lt_2 _ _) (zb5 a b m1 m2 d1 d2 f1 f2 [.int i1 ti1, .int n1 tn1, .ref p] [.int i2 ti2, .int n2 tn2, .ref p2] k res) ⟨ho,ho2,he,hk3,hk3,?_,⟨(λx=>nomatch x),⟨.bl res,H,I,rfl,by rw[←er];exact q⟩⟩⟩ (by omega)
  rcases hk with⟨h1,h2⟩|h
  ·exact .inl ⟨h1,by rw[h2];rfl⟩
  ·exact .inr h
 have intE:∀{i j:Int} {t t':Tok} {b:Bool} (e:(i==j)=b) (prog:Program) (w:World) (E:Value->Shared->Prop) (Q:Bool->Shared->Prop),Q b s->wpAny (model prog w) X.A.in1 (eqBool (.int i t) (.int j t')) Q E s:=λe prog w E Q hq=>wpAny_eqBool_int (by rw[e];exact hq)
 have tupE:∀{b:Bool} (e:decide (ps=qs)=b) (prog:Program) (w:World) (E:Value->Shared->Prop) (Q:Bool->Shared->Prop),Q b s->wpAny (model prog w) X.A.in1 (eqBool (.ref p) (.ref p2)) Q E s:=λ{b} e prog w E Q hq=>SeqAt.eqAt_reads _ _ X.A.in1 s _ _ _ _ rd1 rd2 (zdL hp op).can (zdL hp2 oq).can (by
  have:=Nat.le_trans (Nat.min_le_left (PyData.tuple (zt ps)).depth (PyData.tuple (zt qs)).depth) zdh
  show X.A.units+1+_<cLine
  omega) prog w E Q (by rw[zcJ,e];exact hq)
 by_cases hi:i1=i2
 ·by_cases hn:n1=n2
  ·by_cases hq:ps=qs
   ·refine mk 3 false (Nat.le_refl _) (by unfold ltK;rw[if_pos hi,if_pos hn];subst hq;exact ze3 _) (λprog w i x y h3 hx hy E Q hQ=>?_) (.inl ⟨rfl,rfl⟩)
    match i,h3,hx,hy with
    |0,_,hx,hy=>cases hx;cases hy;exact intE (by simp[hi]) prog w E Q hQ
    |1,_,hx,hy=>cases hx;cases hy;exact intE (by simp[hn]) prog w E Q hQ
    |2,_,hx,hy=>cases hx;cases hy;exact tupE (decide_eq_true hq) prog w E Q hQ
   ·refine mk 2 (ltL ps qs) (by omega) (by unfold ltK;rw[if_pos hi,if_pos hn]) (λprog w i x y h3 hx hy E Q hQ=>?_) (.inr ⟨_,_,rfl,rfl,tupE (decide_eq_false hq),λprog w E Q hQ=>ziY s1 s2 u1 u2 (by show X.A.units+1<cLine;omega) hQ⟩)
    match i,h3,hx,hy with
    |0,_,hx,hy=>cases hx;cases hy;exact intE (by simp[hi]) prog w E Q hQ
    |1,_,hx,hy=>cases hx;cases hy;exact intE (by simp[hn]) prog w E Q hQ
  ·refine mk 1 (decide (n1<n2)) (by omega) (by unfold ltK;rw[if_pos hi,if_neg hn]) (λprog w i x y h3 hx hy E Q hQ=>?_) (.inr ⟨_,_,rfl,rfl,intE (by simp[hn]),λprog w E Q hQ=>(PyProof.Rows.lt_int hQ:wpAny (model prog w) X.A.in1 (compareOp .Lt (.int n1 tn1) (.int n2 tn2)) Q E s)⟩)
   match i,h3,hx,hy with
   |0,_,hx,hy=>cases hx;cases hy;exact intE (by simp[hi]) prog w E Q hQ
 ·exact mk 0 (decide (i1<i2)) (by omega) (by unfold ltK;rw[if_neg hi]) (λprog w i x y h3 hx hy E Q hQ=>absurd h3 (Nat.not_lt_zero _)) (.inr ⟨_,_,rfl,rfl,intE (by simp[hi]),λprog w E Q hQ=>(PyProof.Rows.lt_int hQ:wpAny (model prog w) X.A.in1 (compareOp .Lt (.int i1 ti1) (.int i2 ti2)) Q E s)⟩)
end
end L2
namespace RW
open PySem PySem.Spec PyProof.Rows L2
noncomputable def zoL:Sp:=λvs H Q _=>∃(v:V) (pw pm:Addr) (x:Str) (ws ms:List Str) (g:Str) (hs:List Str) (ps:List (Str×Str)) (lks hds:List D) (j:Nat) (rs:List D) (i:Int),vs=[v, .ref pw, .ref pm]/\Rep H v (zaf g hs ps lks hds)/\TownOk g hs ps lks hds/\hs[j]?=some x/\lks[j]?=some (.tup rs)/\H pw=some (.tup ((x::ws).map V.str))/\H pm=some (.tup (ms.map V.str))/\(∀y∈x::ws,zi y=true)/\(∀y∈ms,zi y=true)/\ws.length<=90/\ms.length<=100/\zT (x::ws) ms rs= .int i/\∀(u:V) (H':Hp),zmi H' u (-i,((x::ws).length:Int),x::ws)->Same H H'->Q u H'
end RW
namespace HT
open PySem PySem.Spec PyProof.Rows
section
variable{prog:Program}{w:World}{A:Around}{E:Value->Shared->Prop}{s:Shared}
end
end HT
namespace L2
open PySem PySem.Spec PyProof.Rows
section
variable{X:Cx}{e st:Expr}{te ts:TE}{p1 p2 p3 pos:Pos}{tk:Tok}
end
end L2
namespace RW
open PySem PySem.Spec PyProof.Rows L2
section
variable{te tf:TE}{ta:TA}{σ:L2.St}{H:Hp}{d:D}{ds es:List D}{K:PySem.W.Frag}
end
end RW
namespace L2
open PySem PySem.Spec PyProof.Rows
noncomputable def Itd(d:Addr)(o:Obj)(u:HO)(ks:List V):It:=⟨λi H=>i<ks.length/\H d=some (.frz o u),λi H x H'=>H'=H/\ks[i]?=some x,λi H=>ks.length<=i/\H d=some (.frz o u)⟩
theorem zqD{d:Addr}{o:Obj}{u:HO}{ks:List V}:Wk (Itd d o u ks) ks.length (λi x=>ks[i]?=some x) (λH=>H d=some (.frz o u)) where
 stop:=λi H h l=>⟨l,h⟩
 go:=λi H h l=>⟨l,h⟩
 yld:=λi H x H' h l y=>y
section
variable{X:Cx}{pos:Pos}{pins:List (Addr×Obj)}{σ:St}{H:Hp}{s:Shared}
end
section
variable{X:Cx}{K:PySem.W.Frag}
end
section
variable{X:Cx}{pos:Pos}
end
end L2
namespace HT
open PySem PySem.Spec PyProof.Rows
end HT
namespace L2
open PySem PySem.Spec PyProof.Rows
section
variable{X:Cx}{e i o:Expr}{te td ty:TE}{p1 p2 p3 pos:Pos}{tk:Tok}
theorem zaj(hu:X.A.units+1<cLine)(ho:QE X o td)(hi:QE X i ty)(hs:zpP i:=by exact λ_ _=>rfl):QE X (.Subscript o i pos) (zoQ td ty):=⟨zni hu ho.o hi.o hs⟩
end
end L2
namespace RW
open PySem PySem.Spec PyProof.Rows L2
theorem zl8:∀{ps qs rs:List Str},ltL ps qs=true->ltL qs rs=true->ltL ps rs=true
 |[],[],_,h,_=>by rw[ltL] at h;cases h
 |_::_,[],_,h,_=>by rw[ltL] at h;cases h
 |_,_::_,[],_,h=>by rw[ltL] at h;cases h
 |[],_::_,_::_,_,_=>by rw[ltL]
 |p::ps,q::qs,r::rs,h1,h2=>by
  rw[ltL] at h1 h2⊢
  by_cases z:p=q
  ·subst z
   rw[if_pos rfl] at h1
   by_cases y:p=r
   ·subst y
    rw[if_pos rfl] at h2⊢
    exact zl8 h1 h2
   ·rw[if_neg y] at h2⊢
    exact h2
  ·rw[if_neg z] at h1
   by_cases y:q=r
   ·subst y
    rw[if_neg z];exact h1
   ·rw[if_neg y] at h2
    have h3:=zfz h1 h2
    rw[if_neg (zjc h3)]
    exact h3
theorem zm6(k:Int×Int×List Str):ltK k k=false:=by
 unfold ltK
 rw[if_pos rfl,if_pos rfl];exact ze3 _
theorem zi2{k1 k2 k3:Int×Int×List Str}(h1:ltK k1 k2=true)(h2:ltK k2 k3=true):ltK k1 k3=true:=by
 unfold ltK at *
 by_cases z:k1.1=k2.1
 ·rw[if_pos z] at h1
  by_cases z2:k2.1=k3.1
  ·rw[if_pos z2] at h2
   rw[if_pos (z.trans z2)]
   by_cases y:k1.2.1=k2.2.1
   ·rw[if_pos y] at h1
    by_cases y2:k2.2.1=k3.2.1
    ·rw[if_pos y2] at h2
     rw[if_pos (y.trans y2)]
     exact zl8 h1 h2
    ·rw[if_neg y2] at h2
     rw[if_neg (by rw[y];exact y2)]
     have:=of_decide_eq_true h2
     exact decide_eq_true (by omega)
   ·rw[if_neg y] at h1
    have h1:=of_decide_eq_true h1
    by_cases y2:k2.2.1=k3.2.1
    ·rw[if_neg (by omega)]
     exact decide_eq_true (by omega)
    ·rw[if_neg y2] at h2
     have h2:=of_decide_eq_true h2
     rw[if_neg (by omega)]
     exact decide_eq_true (by omega)
  ·rw[if_neg z2] at h2
   have h2:=of_decide_eq_true h2
   rw[if_neg (by omega)]
   exact decide_eq_true (by omega)
 ·rw[if_neg z] at h1
  have h1:=of_decide_eq_true h1
  by_cases z2:k2.1=k3.1
  ·rw[if_neg (by omega)]
   exact decide_eq_true (by omega)
  ·rw[if_neg z2] at h2
   have h2:=of_decide_eq_true h2
   rw[if_neg (by omega)]
   exact decide_eq_true (by omega)
theorem znS{k1 k2:Int×Int×List Str}(h:ltK k1 k2=true):ltK k2 k1=false:=by
 cases e:ltK k2 k1 with
 |false=>rfl
 |true=>have:=zi2 h e;rw[zm6] at this;cases this
noncomputable abbrev WM:=List Str×List Str
noncomputable def wI(rs:List D)(e:WM):Int:=match zT e.1 e.2 rs with| .int a=>a|_=>0
noncomputable def kE(rs:List D)(e:WM):Int×Int×List Str:=(-(wI rs e),(e.1.length:Int),e.1)
mutual
theorem znj:∀d:D,(pyD d).eqv (pyD d)=true
 | .non=>by rw[pyD,PyData.eqv]
 | .bl b=>by rw[pyD,PyData.eqv];simp
 | .int i=>by rw[pyD,PyData.eqv];simp
 | .str x=>by rw[pyD,PyData.eqv];simp
 | .tup ds=>by rw[pyD,PyData.eqv];exact zke ds
 | .oth=>by rw[pyD,PyData.eqv]
theorem zke:∀ds:List D,PyData.eqvAll (pyL ds) (pyL ds)=true
 |[]=>by rw[pyL,PyData.eqvAll]
 |d::ds=>by rw[pyL,PyData.eqvAll,znj d,zke ds];rfl
end
theorem zbY{n:Nat}:∀{xs:List PyData},(∀x∈xs,x.depth<=n)->PyData.depthAll xs<=n
 |[],_=>by rw[PyData.depthAll];exact Nat.zero_le _
 |x::xs,h=>by
  rw[PyData.depthAll]
  have h1:=h x List.mem_cons_self
  have h2:=zbY (n:=n) λy hy=>h y (List.mem_cons_of_mem _ hy)
  omega
end RW
namespace HT
open PySem PySem.Spec PyProof.Rows L2
section
variable{prog:Program}{w:World}{A:Around}{E:Value->Shared->Prop}{s:Shared}
def SqH(t:Bool)(h:Heap)(a:Addr)(items:Array Value):Prop:=if t then h.IsTuple a items else h.IsList a items
def ItH(t:Bool)(h:Heap)(it a:Addr)(i:Nat):Prop:=if t then h.IsTupleIter it a i else h.IsListIter it a i
end
end HT
namespace L2
open PySem PySem.Spec PyProof.Rows
section
variable{X:Cx}{K:PySem.W.Frag}
structure ZpA(z TI TO i1 i2:Addr):Prop where
 TIz:TI≠z
 TOz:TO≠z
 i1z:i1≠z
 i2z:i2≠z
 TITO:TI≠TO
 TIi1:TI≠i1
 TIi2:TI≠i2
 TOi1:TO≠i1
 TOi2:TO≠i2
 i12:i1≠i2
end
section
variable{prog:Program}{w:World}{A:Around}{R:Result->Shared->Prop}{s:Shared}{elt t1 i1 t2 i2:Expr}{f1 f2:List Expr}{scope:Scope}{pos:Pos}{it acc:Value}{env:Env}
end
section
variable{X:Cx}{elt tg iter tg2 iter2:Expr}{ifs ifs2:List Expr}{scope osc:Scope}{pos:Pos}{N':List Str}{src:List (Option Nat)}{wi wi2:TI}{g g2:TG}{tc tc2:TT}{te:TE}
end
def zql(v:V)(y:Str):Prop:=v= .str y\/∃i:Int,v= .int i/\y=(toString i:String)/\i.natAbs.log2<1920
section
variable{X:Cx}{e:Expr}{te:TE}{pos:Pos}{es:List Expr}{ts:List TE}
structure QP1(X:Cx)(e:Expr)(te:TE):Prop where
 o:∀(pins:List (Addr×Obj)) (s:Shared) (σ:St) (H:Hp) (Q:Str->Hp->Prop),Inv X pins σ H s->(te σ H λv H1=>∃y,zql v y/\y.length<=sizeLine/\Q y H1)->
  wpAny (model X.prog X.w) X.A (eval e X.env) (λu s1=>∃y t H1,u= .str y t/\Inv X pins σ H1 s1/\Q y H1) X.xe s
inductive QJ(X:Cx):List Expr->List TE->Prop
 |nil:QJ X [] []
 |cons {e:Expr} {t:TE} {es:List Expr} {ts:List TE} (h:QP1 X e t) (r:QJ X es ts):QJ X (e::es) (t::ts)
end
section
variable{prog:Program}{w:World}{A:Around}{E:Value->Shared->Prop}{s:Shared}
end
section
variable{X:Cx}
end
end L2
namespace RW
open PySem PySem.Spec PyProof.Rows L2
theorem ze8(x y:Str):(x ++y).length=x.length+y.length:=Array.size_append
noncomputable def zqc(i:Int):Str:=(toString i:String)
theorem znT:∀n∈List.range 1999,(zqc ((n:Int) -999)).length<=4:=by decide +kernel
theorem zl9{i:Int}(h1: -999<=i)(h2:i<=999):(zqc i).length<=4:=by
 have:=znT (i+999).toNat (List.mem_range.mpr (by omega))
 rwa[show(((i+999).toNat:Nat):Int) -999=i by omega] at this
theorem zkW{i:Int}(h1: -999<=i)(h2:i<=999):i.natAbs.log2<1920:=by
 have h:i.natAbs<1000:=by omega
 rcases Nat.eq_zero_or_pos i.natAbs with z|z
 ·rw[z];decide
 ·exact Nat.lt_trans ((Nat.log2_lt (by omega)).mpr (show i.natAbs<2^10 by omega)) (by decide)
theorem zqK{sep x y:Str}{r:List Str}:Str.join sep (x::y::r)=x ++sep ++Str.join sep (y::r):=rfl
theorem zh1{sep:Str}{c m:Nat}(hs:sep.length<=m):∀{xs:List Str},(∀x∈xs,x.length<=c)->(Str.join sep xs).length<=xs.length*(c+m)
 |[],_=>by show(Str.empty).length<=_;exact Nat.zero_le _
 |[x],h=>by show x.length<=1*(c+m);have:=h x (by simp);omega
 |x::y::r,h=>by
  rw[zqK,ze8,ze8]
  have h1:=h x (by simp)
  have h2:=zh1 hs (xs:=y::r) λz hz=>h z (List.mem_cons_of_mem _ hz)
  rw[List.length_cons,Nat.add_mul,Nat.one_mul]
  omega
end RW
namespace L2
open PySem PySem.Spec PyProof.Rows
section
variable{X:Cx}{K:PySem.W.Frag}
end
end L2
namespace RW
open PySem PySem.Spec PyProof.Rows L2
end RW
namespace HT
open PySem PySem.Spec PyProof.Rows L2
section
variable{prog:Program}{w:World}{A:Around}{E:Value->Shared->Prop}{s:Shared}
end
section
variable{prog:Program}{w:World}{A:Around}{E:Value->Shared->Prop}{s:Shared}{K:Type}[DecidableEq K]{knd:KeyKind prog w K}
structure DzAt(h:Heap)(knd:KeyKind prog w K)(t1 t2:Bool)(z TI i1 i2 l1 l2 d:Addr)(xs ys:Array Value)(kvs:List (K×Value))(i:Nat):Prop where
 TI:IsPair h TI (.ref i1) (.ref i2)
 p1:ItH t1 h i1 l1 i
 p2:ItH t2 h i2 l2 i
 q1:SqH t1 h l1 xs
 q2:SqH t2 h l2 ys
 dd:h.DictOf knd d kvs
structure DzD(z TI TO i1 i2 l1 l2 d:Addr):Prop extends ZipApart z TI TO i1 i2 l1 l2 where
 dz:d≠z
 dTI:d≠TI
 di1:d≠i1
 di2:d≠i2
 dl1:d≠l1
 dl2:d≠l2
 TIl1:True
end
end HT
namespace L2
open PySem PySem.Spec PyProof.Rows
section
variable{X:Cx}
end
end L2
namespace RW
open PySem PySem.Spec PyProof.Rows L2
section
variable{X:Cx}
end
def Shw(c k:Nat)(d:D):Prop:=okD d=true/\(pyD d).showable=true/\(pyD d).depth<=k/\(pyD d).shown.length<=c
theorem Shw.mono{c k c' k':Nat}{d:D}(h:Shw c k d)(h1:c<=c')(h2:k<=k'):Shw c' k' d:=⟨h.1,h.2.1,Nat.le_trans h.2.2.1 h2,Nat.le_trans h.2.2.2 h1⟩
theorem zka{x:Str}(h:PyData.strOk x=true)(hl:x.length<=8):Shw 82 1 (.str x):=by
 refine⟨by rw[okD];exact h,by rw[pyD,PyData.showable],by rw[pyD,PyData.depth];omega,?_⟩
 rw[pyD,PyData.shown]
 have hc:∀c∈x.cps.toList,c<16^8:=λc hc=>by
  unfold PyData.strOk at h
  rw[Array.all_eq_true'] at h
  have:=of_decide_eq_true (h c (Array.mem_toList_iff.mp hc))
  omega
 have:=StrLaws.reprText_len x hc
 omega
theorem zkw{i:Int}(h1: -999<=i)(h2:i<=999):Shw 82 1 (.int i):=by
 refine⟨by rw[okD],by rw[pyD,PyData.showable];exact decide_eq_true (zkW h1 h2),by rw[pyD,PyData.depth];omega,?_⟩
 rw[pyD,PyData.shown]
 exact Nat.le_trans (zl9 h1 h2) (by decide)
theorem zox:Shw 82 1 .non:=by
 refine⟨by rw[okD],by rw[pyD,PyData.showable],by rw[pyD,PyData.depth];omega,?_⟩
 rw[pyD,PyData.shown];decide
theorem zdb:∀{xs:List PyData},(∀x∈xs,x.showable=true)->PyData.showableAll xs=true
 |[],_=>by rw[PyData.showableAll]
 |x::xs,h=>by rw[PyData.showableAll,h x List.mem_cons_self,zdb λy hy=>h y (List.mem_cons_of_mem _ hy)];rfl
theorem zdW:∀{xs:List PyData},PyData.shownAll xs=xs.map PyData.shown
 |[]=>by rw[PyData.shownAll];rfl
 |x::xs=>by rw[PyData.shownAll,List.map_cons,zdW]
theorem zbO{ds:List D}{c k:Nat}(m:Nat)(hm:ds.length<=m)(h:∀d∈ds,Shw c k d):Shw (m*(c+2)+3) (k+1) (.tup ds):=by
 refine⟨by rw[okD];exact zmY λd hd=>(h d hd).1,?_,?_,?_⟩
 ·rw[pyD,PyData.showable,ze6]
  exact zdb λx hx=>by obtain⟨d,hd,rfl⟩:=List.mem_map.mp hx;exact(h d hd).2.1
 ·rw[pyD,PyData.depth,ze6]
  have:=zbY (n:=k) (xs:=ds.map pyD) λx hx=>by obtain⟨d,hd,rfl⟩:=List.mem_map.mp hx;exact(h d hd).2.2.1
  omega
 ·rw[pyD,PyData.shown,ze6,zdW,List.map_map]
  have hc:∀x∈ds.map (PyData.shown∘pyD),x.length<=c:=λx hx=>by obtain⟨d,hd,rfl⟩:=List.mem_map.mp hx;exact(h d hd).2.2.2
  have jl:=zh1 (sep:=", ") (m:=2) (by decide) hc
  rw[List.length_map] at jl
  unfold tupleText
  rw[ze8,ze8]
  have l1:("(":Str).length=1:=rfl
  have l2:(Str.ofString (if(ds.map (PyData.shown∘pyD)).length==1 then",)"else ")")).length<=2:=by split<;>decide
  have:ds.length*(c+2)<=m*(c+2):=Nat.mul_le_mul_right _ hm
  rw[l1]
  have l2':(Str.ofString (if(ds.map (PyData.shown∘pyD)).length==1 then",)"else ")":String)).length<=2:=l2
  omega
theorem zfP{x:Str}(h:zi x=true):Shw 82 1 (.str x):=zka (zak h) (by
 unfold zi at h
 simp only[Bool.and_eq_true,decide_eq_true_eq] at h
 omega)
theorem zc6{a b:D}{c k:Nat}(ha:Shw c k a)(hb:Shw c k b):Shw (2*(c+2)+3) (k+1) (.tup [a,b]):=zbO 2 (Nat.le_refl 2) λd hd=>by
 simp only[List.mem_cons,List.not_mem_nil,or_false] at hd
 rcases hd with rfl|rfl
 ·exact ha
 ·exact hb
theorem zdk{w:Str}(h:w∈(["by","from","to","mark","long","not","keep","put","strike"]:List Str)):Shw 82 1 (.str w):=by
 simp only[List.mem_cons,List.not_mem_nil,or_false] at h
 rcases h with rfl|rfl|rfl|rfl|rfl|rfl|rfl|rfl|rfl<;>exact zka (by decide +kernel) (by decide)
theorem zgy{d:D}(h:zG d=true):Shw 171 2 d:=by
 obtain⟨w,e,rfl⟩:=zcn d h
 rcases zbm h with⟨rfl,i,rfl,i0,i9⟩|⟨hn,y,rfl,hy⟩
 ·exact zc6 (zdk (by decide)) (zkw (by omega) (by omega))
 ·exact zc6 (zdk (by rcases zdX hn with rfl|rfl|rfl|rfl<;>decide)) (zfP hy)
theorem zl5{d:D}(h:zL d=true):Shw 349 3 d:=by
 obtain⟨w,e,rfl⟩:=zgx d h
 rw[zd9] at h
 by_cases z:w="not"
 ·subst z
  rw[if_pos rfl] at h
  exact zc6 ((zdk (by decide)).mono (by decide) (by decide)) (zgy h)
 ·rw[if_neg z] at h
  exact(zgy h).mono (by decide) (by decide)
theorem zgW{cs:List D}(hl:cs.length<=4)(h:∀c∈cs,zL c=true):Shw 1407 4 (.tup cs):=zbO 4 hl λc hc=>zl5 (h c hc)
theorem zkV{d:D}(h:zbU d=true):Shw 82 1 d:=by
 cases d with
 |non=>exact zox
 |int i=>
  have h:(decide ((-999:Int)<=i)&&decide (i<=999))=true:=h
  rw[Bool.and_eq_true] at h
  exact zkw (of_decide_eq_true h.1) (of_decide_eq_true h.2)
 |_=>cases h
theorem znx{d:D}(h:zcf d=true):Shw 171 2 d:=by
 rcases zlt h with rfl|⟨w,y,rfl,hw,hy⟩
 ·exact (zbO (ds:=[.str "keep"]) (c:=82) (k:=1) 1 (Nat.le_refl 1) λd hd=>by rw[List.mem_singleton.mp hd];exact zdk (by decide)).mono (by decide) (by decide)
 ·exact zc6 (zdk (by rcases hw with rfl|rfl<;>decide)) (zfP hy)
theorem zh8{d:D}(h:zbQ d=true):Shw 254073 6 d:=by
 cases d with
 |tup rs=>
  have h:(decide (rs.length<=90)&&rs.all zS)=true:=h
  rw[Bool.and_eq_true] at h
  refine zbO (c:=2821) (k:=5) 90 (of_decide_eq_true h.1) λr hr=>?_
  have hk:=List.all_eq_true.mp h.2 r hr
  unfold zS at hk
  obtain⟨c,x,rfl,hk⟩:=zjg (f:=λc x=>zaG c&&zbU x&&!zd8 c) hk
  rw[Bool.and_eq_true,Bool.and_eq_true] at hk
  obtain⟨cs,rfl,h4,hc⟩:=zfj hk.1.1
  exact zc6 (zgW h4 hc) ((zkV hk.1.2).mono (by decide) (by decide))
 |_=>cases h
theorem zle{d:D}(h:zcb d=true):Shw 254073 6 d:=by
 cases d with
 |tup rs=>
  have h:(decide (rs.length<=90)&&rs.all zb6)=true:=h
  rw[Bool.and_eq_true] at h
  refine zbO (c:=2821) (k:=5) 90 (of_decide_eq_true h.1) λr hr=>?_
  obtain⟨cs,x,rfl,h4,hc,hx⟩:=zjZ (List.all_eq_true.mp h.2 r hr)
  exact zc6 (zgW h4 hc) ((znx hx).mono (by decide) (by decide))
 |_=>cases h
theorem zmS{g:Str}{hs:List Str}{ps:List (Str×Str)}{lks hds:List D}(T:TownOk g hs ps lks hds)(hp:ps.length<=1000):Shw 12703778 8 (zaf g hs ps lks hds):=by
 have hn:∀x∈hs,Shw 82 1 (.str x):=λx hx=>zfP (T.names x hx)
 refine zbO (c:=2540753) (k:=7) 5 (Nat.le_refl 5) λd hd=>?_
 simp only[List.mem_cons,List.not_mem_nil,or_false] at hd
 rcases hd with rfl|rfl|rfl|rfl|rfl
 ·exact (hn g T.goal).mono (by decide) (by decide)
 ·exact (zbO 10 (by rw[List.length_map];exact T.ten) λd hd=>by obtain⟨x,hx,rfl⟩:=List.mem_map.mp hd;exact hn x hx).mono (by decide) (by decide)
 ·exact (zbO 1000 (by rw[List.length_map];exact hp) λd hd=>by
   obtain⟨p,hp,rfl⟩:=List.mem_map.mp hd
   obtain⟨t1,t2,_⟩:=T.ties p hp
   exact zc6 (hn _ t1) (hn _ t2)).mono (by decide) (by decide)
 ·exact zbO 10 (by rw[T.ll];exact T.ten) λd hd=>zh8 (T.likes d hd)
 ·exact zbO 10 (by rw[T.lh];exact T.ten) λd hd=>zle (T.hands d hd)
end RW
namespace RW
open PySem PySem.W PyProof.Rows L2
section
variable{N:Nat}{lt:Nat->Nat->Bool}
end
end RW
namespace L2
open PySem PySem.Spec PySem.W PyProof.Rows
theorem zie:∀{a b:List Str},a≠b->ltL a b=false->ltL b a=true
 |[],[],h,_=>absurd rfl h
 |[],_::_,_,e=>by cases e
 |_::_,[],_,_=>rfl
 |x::xs,y::ys,h,e=>by
  rw[ltL] at e⊢
  by_cases z:x=y
  ·rw[if_pos z] at e;rw[if_pos z.symm];exact zie (λq=>h (by rw[z,q])) e
  ·rw[if_neg z] at e;rw[if_neg (Ne.symm z)];exact zc0 z e
section
variable{prog:Program}{w:World}{A:Around}{E:Value->Shared->Prop}{s:Shared}
end
section
variable{X:Cx}{K:PySem.W.Frag}
end
end L2
namespace L2
open PySem PySem.Spec PyProof.Rows
section
variable{X:Cx}{K:PySem.W.Frag}{o:Expr}{to:TE}{name:Str}{apos cpos:Pos}{T id:String}{r:V->List V->Hp->VK->Prop}
end
section
variable{X:Cx}{K:PySem.W.Frag}
end
end L2
namespace RW
open PySem PySem.Spec PyProof.Rows L2
noncomputable def zoa:List Str->Bool
 |[a,b,w]=>zi a&&zi b&&(if w="equal"then ltS a b else decide (w="over")&&!decide (a=b))
 |_=>false
noncomputable def zi6(r:List Str):List Str:=srt (r.take 2)
structure KinOk(rs:List (List Str)):Prop where
 row:∀r∈rs,zoa r=true
 rise:rs.Pairwise (λa b=>ltL a b=true)
 ties:(rs.map zi6).Nodup
noncomputable def pr(a b:Str):List Str:=srt [a,b]
noncomputable abbrev at_(xs:List Str)(i:Nat):Str:=xs.getD i ""
structure KD62(xs:List Str)(ps:List (Nat×Nat))(k:Nat)(rs:List (List Str)):Prop where
 row:∀r∈rs,zoa r=true
 nd:(rs.map zi6).Nodup
 few:rs.length<=k
 old:∀r∈rs,∃q∈ps.take k,q.1<q.2/\zi6 r=pr (at_ xs q.1) (at_ xs q.2)
section
variable{te tf:TE}{ta:TA}{σ:L2.St}{H:Hp}{P P':D->Prop}{d:D}{ds:List D}{n:Nat}{K:PySem.W.Frag}
end
end RW
namespace HT
open PySem PySem.Spec PyProof.Rows L2
section
variable{prog:Program}{w:World}{A:Around}{E:Value->Shared->Prop}{s:Shared}
end
end HT
namespace L2
open PySem PySem.Spec PyProof.Rows
section
variable{X:Cx}{tg:Expr}
end
section
variable{X:Cx}
theorem zns{c:Expr}{body:List Stmt}{tc:TT}{tb:TS}{pos:Pos}(hc:QT X c tc)(hb:QB X body tb)(hp:PassesOwn (model X.prog X.w) X.A X.env X.xe:=by exact PassesOwn.never):QS X (.While c body [] pos) (zlN tc tb):=⟨zm2 hp hc.o hb.o⟩
end
end L2
namespace RW
open PySem PySem.Spec PyProof.Rows L2
noncomputable def zq4:D->List D| .tup rs=>rs|_=> []
noncomputable def zv:List Str->List D->Str->List D
 |h::hs,d::ds,x=>if h=x then zq4 d else zv hs ds x
 |_,_,_=> []
theorem zht{x:Str}{rs:List D}:∀{hs:List Str} {ds:List D} {j:Nat},hs.Nodup->hs[j]?=some x->ds[j]?=some (.tup rs)->zv hs ds x=rs
 |[],_,j,_,h1,_=>by simp at h1
 |h::hs,[],j,_,_,h2=>by simp at h2
 |h::hs,d::ds,0,_,h1,h2=>by
  simp at h1 h2
  subst h1 h2
  rw[zv,if_pos rfl];rfl
 |h::hs,d::ds,j+1,nd,h1,h2=>by
  simp only[List.getElem?_cons_succ] at h1 h2
  rw[List.nodup_cons] at nd
  have hne:¬h=x:=λe=>nd.1 (e▸List.mem_of_getElem? h1)
  rw[zv,if_neg hne]
  exact zht nd.2 h1 h2
noncomputable def zcB:D->Bool| .non=>true|_=>false
theorem znK{H:Hp}{u:V}{d:D}(r:Rep H u d):decide (u=V.non)=zcB d:=by
 cases r<;>first|rfl|exact decide_eq_false (λz=>by cases z)
structure Mr(O t:List Str):Prop extends Mk O t where
 rise:t.Pairwise (λa b=>ltS a b=true)
end RW
namespace L2
section
variable{α:Type}{P:List α->Prop}
theorem of1(h:∀a,P [a]):∀us:List α,us.length=1->P us
 |[a],_=>h a
theorem of2(h:∀a b,P [a,b]):∀us:List α,us.length=2->P us
 |[a,b],_=>h a b
theorem of3(h:∀a b c,P [a,b,c]):∀us:List α,us.length=3->P us
 |[a,b,c],_=>h a b c
theorem of4(h:∀a b c d,P [a,b,c,d]):∀us:List α,us.length=4->P us
 |[a,b,c,d],_=>h a b c d
end
end L2
namespace HT
open PySem PySem.Spec PyProof.Rows L2
section
variable{prog:Program}{w:World}{A:Around}{R:Result->Shared->Prop}{I:Addr}{fp wr:List Addr}{n:Nat}{P:Nat->Value->Prop}{St:Nat->Heap->Prop}
end
section
variable{prog:Program}{w:World}{A:Around}{E:Value->Shared->Prop}{s:Shared}
end
end HT
namespace L2
open PySem PySem.Spec PyProof.Rows
section
variable{X:Cx}
end
section
variable{X:Cx}
end
end L2
namespace L2
open PySem PySem.W PySem.Spec PyProof.Rows PyProof.V
section
variable{X:Cx}
end
end L2
namespace HT
open PySem PySem.Spec PyProof.Rows L2
section
variable{prog:Program}{w:World}{A:Around}{R:Result->Shared->Prop}{I:Addr}{fp wr:List Addr}{n:Nat}{P:Nat->Value->Prop}{St:Nat->Heap->Prop}
end
section
variable{prog:Program}{w:World}{A:Around}{E:Value->Shared->Prop}{s:Shared}
end
section
variable{prog:Program}{w:World}{A:Around}{E:Value->Shared->Prop}{s:Shared}
end
end HT
namespace L2
open PySem PySem.W PySem.Spec PyProof.Rows PyProof.V
section
variable{X:Cx}
end
end L2
namespace L2
open PySem PySem.Spec PyProof.Rows
section
variable{prog:Program}{w:World}{A:Around}{R:Result->Shared->Prop}{s:Shared}{kx vx t1 i1 t2 i2:Expr}{f1 f2:List Expr}{scope:Scope}{pos:Pos}{it acc:Value}{env:Env}{d:Addr}
end
section
variable{X:Cx}{kx vx tg iter tg2 iter2:Expr}{ifs ifs2:List Expr}{scope osc:Scope}{pos:Pos}{N':List Str}{src:List (Option Nat)}{wi wi2:TI}{g g2:TG}{tc tc2:TT}{tk tv:TE}{y:Str}{py spos:Pos}{k:Nat}
end
section
variable{X:Cx}{pos:Pos}{pins:List (Addr×Obj)}{σ:St}{H:Hp}{s:Shared}
theorem Inv.frzK{d:Addr}{kvs:List (Key×V)}{o:Obj}(I:Inv X pins σ H s)(e:H d=some (.dK kvs))(g:s.heap.get? d=some o):Inv X pins σ (upd H d (.frz o (.dK kvs))) s where
 ok:=I.ok
 os:=I.os
 bare:=I.bare
 base:={
  keep:=I.base.keep
  slot:=I.base.slot
  free:=λb o h1 h2 h3=>by
   have:=I.base.free b o h1 h2 h3
   rw[zh λz=>by rw[z,e] at this;cases this];exact this
  there:=I.base.there
  tups:=λb xs h=>by
   have:=I.base.tups b xs h
   rw[zh λz=>by rw[z,e] at this;cases this];exact this
  frzs:=λb o u h=>by
   have:=I.base.frzs b o u h
   rw[zh λz=>by rw[z,e] at this;cases this];exact this
  tbls:=λb ps h=>by
   obtain⟨more,this⟩:=I.base.tbls b ps h
   exact⟨more,by rw[zh λz=>by rw[z,e] at this;cases this];exact this⟩}
 loc:=I.loc
 cell:=I.cell
 free:=by
  have:=I.free
  rw[zh λz=>by rw[z,e] at this;cases this];exact this
 freeC:=λx c h=>by
  have:=I.freeC x c h
  rw[zh λz=>by rw[z,e] at this;cases this];exact this
 pin:=λp hp=>by
  obtain⟨h1,h2,h3⟩:=I.pin p hp
  exact⟨h1,by rw[zh λz=>by rw[z,e] at h2;cases h2];exact h2,h3⟩
 hok:=λa o' h=>by
  have st:∀{u:HO},ObjOk X.prog X.w H s.heap a u->ObjOk X.prog X.w (upd H d (.frz o (.dK kvs))) s.heap a u:=λx=>x.stay (λ_ _ _ q=>q) (λb q=>by rw[zh λz=>by rw[z,e] at q;cases q];exact q) (λb xs q=>by rw[zh λz=>by rw[z,e] at q;cases q];exact q)
  by_cases z:a=d
  ·subst z
   rw[zb] at h
   cases h
   exact⟨g,st (I.hok a _ e)⟩
  ·rw[zh z] at h
   exact st (I.hok a _ h)
 len:=I.len
end
end L2
namespace RW
open PySem PySem.Spec PyProof.Rows L2
structure RingG(G:Str->List Str)(xs:List Str):Prop where
 two:2<=xs.length
 ends:xs[0]?=xs[xs.length -1]?
 nd:(xs.drop 1).Nodup
 nxt:∀i a b,xs[i]?=some a->xs[i+1]?=some b->a∈G b
structure Led(H:Hp)(kvs:List (Key×V))(ks:List Str)(G:Str->List Str):Prop where
 keys:kvs.map (·.1)=ks.map Sum.inr
 nd:ks.Nodup
 at_:∀x∈ks,∃l,zal kvs (Sum.inr x)=some (.ref l)/\H l=some (.lst ((G x).map V.str))
 sub:∀x∈ks,∀y∈G x,y∈ks
 short:∀x∈ks,x.length<=1000
 few:ks.length<=60/\∀x∈ks,(G x).length<=60
noncomputable def tol(tk:List (Key×V))(x:Str):Bool:=(zal tk (Sum.inr x)).isSome
structure Tld63(tk:List (Key×V))(ks:List Str)(G:Str->List Str):Prop where
 opn:∀x∈ks,tol tk x=false->∃y∈G x,tol tk y=false
 sure:∀W:Str->Prop,(∀b,W b->∃a∈G b,W a)->∀b,W b->tol tk b=false
structure Peel(rs R:List (List Str)):Prop where
 sub:∀r∈R,r∈rs/\at_ r 2=("over":Str)
 out:∀W:Str->Prop,(∀b,W b->∃a,[a,b,"over"]∈rs/\W a)->∀a b,W a->W b->[a,b,"over"]∈rs->[a,b,"over"]∈R
structure LR(ks:List Str)(G:Str->List Str)(tk:List (Key×V))(ws:List Str):Prop where
 sub:∀x∈ws,x∈ks
 cov:∀x∈ks,x∈ws\/tol tk x=true
 sure:∀W:Str->Prop,(∀b,W b->∃a∈G b,W a)->∀b,W b->tol tk b=false
 inv:∀x v,zal tk (Sum.inr x)=some v->∃n,v=V.int n
 len:tk.length+ws.length<=ks.length
structure LRi(ks:List Str)(G:Str->List Str)(tk:List (Key×V))(ws ys:List Str)(i:Nat)(fr:Bool):Prop where
 sub:∀x∈ys,x∈ks
 cov:∀x∈ks,x∈ys\/x∈ws.drop i\/tol tk x=true
 sure:∀W:Str->Prop,(∀b,W b->∃a∈G b,W a)->∀b,W b->tol tk b=false
 inv:∀x v,zal tk (Sum.inr x)=some v->∃n,v=V.int n
 len:tk.length+ys.length+(ws.length -i)<=ks.length
 le:ys.length<=i
 lt:fr=true->ys.length<i
 opn:fr=false->∀x∈ys,∃y∈G x,tol tk y=false
structure Wlk(ks:List Str)(G:Str->List Str)(tk:List (Key×V))(row:List Str)(x:Str):Prop where
 nd:row.Nodup
 sub:∀y∈row,y∈ks
 ch:∀i a b,row[i]?=some a->row[i+1]?=some b->b∈G a
 nx:∀a,row[row.length -1]?=some a->x∈G a
 xk:x∈ks
 xu:tol tk x=false
end RW
namespace L2
open PySem PySem.Spec PyProof.Rows
end L2
namespace RW
open PySem PySem.Spec PyProof.Rows L2
structure EL(H H':Hp)(kvs:List (Key×V))(ks:List Str)(G:Str->List Str):Prop where
 keys:kvs.map (·.1)=ks.map Sum.inr
 nd:ks.Nodup
 at_:∀x∈ks,∃l,zal kvs (Sum.inr x)=some (.ref l)/\H' l=some (.lst ((G x).map V.str))/\H l=none
 apart:∀x∈ks,∀y∈ks,∀l,zal kvs (Sum.inr x)=some (.ref l)->zal kvs (Sum.inr y)=some (.ref l)->x=y
theorem putK_keys{kvs:List (Key×V)}{k:Key}{v:V}:(k∈kvs.map (·.1)->(zO kvs k v).map (·.1)=kvs.map (·.1))/\(¬k∈kvs.map (·.1)->(zO kvs k v).map (·.1)=kvs.map (·.1)++ [k]):=by
 unfold zO
 have e:(kvs.any λkv=>decide (kv.1=k))=true↔k∈kvs.map (·.1):=by
  rw[List.any_eq_true,List.mem_map]
  constructor
  ·rintro ⟨kv,h,e⟩;exact⟨kv,h,of_decide_eq_true e⟩
  ·rintro ⟨kv,h,e⟩;exact⟨kv,h,decide_eq_true e⟩
 refine⟨λh=>?_,λh=>?_⟩
 ·rw[if_pos (e.mpr h),List.map_map]
  apply List.map_congr_left
  intro kv _
  show(if kv.1=k then(kv.1,v)else kv).1=kv.1
  split<;>rfl
 ·rw[if_neg (λz=>h (e.mp z)),List.map_append];rfl
noncomputable def kOf(t:List Str):List Key:=t.map Sum.inr
structure RT(H:Hp)(kvs:List (List Key×V))(rs:List (List Str)):Prop where
 len:kvs.length=rs.length
 at_:∀(j:Nat) (kv:List Key×V) (r:List Str),kvs[j]?=some kv->rs[j]?=some r->∃b,kv.1=kOf (zi6 r)/\kv.2= .ref b/\H b=some (.tup (r.map V.str))
 row:∀r∈rs,zoa r=true
 nd:(rs.map zi6).Nodup
structure RG(xs:List Str)(m:Nat)(rs:List (List Str)):Prop where
 row:∀r∈rs,zoa r=true
 nd:(rs.map zi6).Nodup
 old:∀r∈rs,∃i j,i<m/\j<m/\zi6 r=pr (at_ xs i) (at_ xs j)
structure MAt(K:PySem.W.Frag)(C:Addr)(x qual:Str)(st:Stmt)(ps:List Str)(f:Addr)(fd:FuncData):Prop where
 fn:Fun K x qual st f fd
 b:Binds K fd ps []
 m:Meth K C x f
end RW
namespace L2
open PySem PySem.Spec PyProof.Rows
section
variable{X:Cx}{o e value:Expr}{f m:Str}{pos pos' tpos apos:Pos}{ta tv:TE}{K:PySem.W.Frag}{es:List Expr}{t:TA}{C fa:Addr}{fd:FuncData}{CX:CXT}{k:Nat}{ps:List Str}{sp:Sp}{dvs:List V}{ds:List Value}{E:XK}
theorem zaR(he:QE X e ta)(hb:attributeBase e f X.env (eval e X.env)=eval e X.env:=by rfl):QE X (.Attribute e f pos) (zqM X.K ta f):=⟨zpz he.o hb⟩
theorem zfR(ha:QE X o ta)(hv:QE X value tv)(hs:swapsWith value (some (.Attribute o f pos')) pos.line X.env=pure false:=by rfl):QS X (.Assign [.Attribute o f pos'] value pos) (zqu X.K ta tv f):=⟨zpv ha.o hv.o hs⟩
theorem zmr{op:Operator}{rd:V->V->Hp->VK->Prop}(ha:QE X o ta)(hv:QE X value tv)(hop:zmo X op rd):QS X (.AugAssign (.Attribute o f tpos) op value pos) (zkz X.K ta tv rd f):=⟨zk7 ha.o hv.o hop⟩
theorem zeI{pl:Sem Bool}(he:QE X o ta)(c:Cls X.K C)(hm:Meth X.K C m fa)(F:FnOk X.prog X.w X.K X.mg X.base CX k fa fd ps sp)(hr:Room k X.A)(hb:Binds X.K fd ps ds)(hd:Vals dvs ds)(hx:zce CX X E)(ha:QA X (e::es) t)
 (hst:starEach (e::es) X.env=(false,eval e X.env)::starEach es X.env:=by rfl) (hpl:(backTo pos (starEach es X.env)).any (·.1)=false:=by rfl)
 (ht:eval (.Call (.Attribute o m apos) (e::es) [] pos) X.env=(do
   let ov ←eval o X.env
   standAt apos.atName
   let(f,first) ←holding [ov] (getMethod ov m pl)
   callWith pos f first (backTo pos (starEach (e::es) X.env)) (backToKw pos (keywordEach [] X.env))):=by rfl):
 QE X (.Call (.Attribute o m apos) (e::es) [] pos) (zkm C m sp dvs E ta t):=⟨zou he.o c hm F hr hb hd hx ha.o hst hpl ht⟩
theorem zcX{pl:Sem Bool}(he:QE X o ta)(c:Cls X.K C)(hm:Meth X.K C m fa)(F:FnOk X.prog X.w X.K X.mg X.base CX k fa fd ps sp)(hr:Room k X.A)(hb:Binds X.K fd ps ds)(hd:Vals dvs ds)(hx:zce CX X E)
 (ht:eval (.Call (.Attribute o m apos) [] [] pos) X.env=(do
   let ov ←eval o X.env
   standAt apos.atName
   let(f,first) ←holding [ov] (getMethod ov m pl)
   callWith pos f first (backTo pos (starEach [] X.env)) (backToKw pos (keywordEach [] X.env))):=by rfl):
 QE X (.Call (.Attribute o m apos) [] [] pos) (zkm C m sp dvs E ta zl4):=⟨zmm he.o c hm F hr hb hd hx ht⟩
theorem zpd{x:Str}{p:Pos}(M:Mk X.K C fa)(F:FnOk X.prog X.w X.K X.mg X.base CX k fa fd ps sp)(hr:Room (k+1) X.A)(hm:X.mg x=some (.ref C))(hb:Binds X.K fd ps ds)(hd:Vals dvs ds)(hx:zce CX X E)
 (ha:QA X (e::es) t) (hg:Gl X x:=by rfl) (hdb:(x==("__debug__":Str))=false:=by decide) (he:starEach (e::es) X.env=(false,eval e X.env)::starEach es X.env:=by rfl) (hpl:(backTo pos (starEach es X.env)).any (·.1)=false:=by rfl):
 QE X (.Call (.Name x p) (e::es) [] pos) (zo2 C sp dvs E t):=⟨zot M F hr hg hm hb hd hx ha.o hdb he hpl⟩
theorem zc5{g:Expr}{td ty tx:TE}{cpos:Pos}(hu:X.A.units+1<cLine)(ho:QE X o td)(he:QE X e ty)(hf:QE X g tx)(hb:attributeBase o "get" X.env (eval o X.env)=eval o X.env:=by rfl)
 (hw:((backTo cpos (starEach [e,g] X.env)).all (λx=>!x.1)&&(backToKw cpos (keywordEach [] X.env)).all (λx=>x.1.isSome)
 &&decide (([e,g]:List Expr).length+([]:List Keyword).length+(if([]:List Keyword).isEmpty then 0 else 1)<30))=true:=by rfl) (hl:(apos.endLine==cpos.line)=true:=by rfl) (ht:backTo cpos (starEach [e,g] X.env)=[(false,eval e X.env),(false,eval g X.env)]:=by rfl):
 QE X (.Call (.Attribute o "get" apos) [e,g] [] cpos) (zmv td ty tx):=⟨zlA hu ho.o he.o hf.o ⟨hb,hw,hl,ht⟩⟩
theorem zks:OpR X (binaryOp .Mult) (rI (λi j=>Builtin.Int.intBits i<=2^20/\Builtin.Int.intBits j<=2^20) λi j=> .int (i*j)):=opI λ_ _ _ _ _ _ _ hc q=>mul_int q (.of_bits hc.1 hc.2)
end
end L2
namespace RW
open PySem PySem.Spec PyProof.Rows L2
inductive TrC(K:PySem.W.Frag)(H:Hp):V->PyData->Prop
 |non:TrC K H .non .none
 |bl (b:Bool):TrC K H (.bl b) (.bool b)
 |int (i:Int):TrC K H (.int i) (.int i)
 |str (x:Str) (h:PyData.strOk x=true):TrC K H (.str x) (.str x)
 |tup {p:Addr} {vs:List V} {ds:List PyData} (e:SqT K H p vs) (hl:vs.length=ds.length) (h:∀(i:Nat) (v:V) (d:PyData),vs[i]?=some v->ds[i]?=some d->TrC K H v d):TrC K H (.ref p) (.tuple ds)
theorem TrC.reads{X:Cx}{pins:List (Addr×Obj)}{σ:L2.St}{H:Hp}{s:Shared}(I:Inv X pins σ H s){x:V}{d:PyData}(t:TrC X.K H x d):∀v,RelV x v->∃as,Reads s.heap v d as:=by
 induction t with
 |non=>intro v r;cases r;exact⟨_, .none⟩
 |bl b=>intro v r;cases r;exact⟨_, .bool b⟩
 |int i=>intro v r;obtain⟨t,rfl⟩:=r;exact⟨_, .int i t⟩
 |str x h=>intro v r;obtain⟨t,rfl⟩:=r;exact⟨_, .str x t⟩
 |tup e hl h ih=>
  intro v r
  cases r
  obtain⟨its,rv,⟨o,ho,hc,n,hd⟩,_⟩:=I.tuple e
  obtain⟨bs,hb⟩:=zbd (h:=s.heap) rv hl ih
  exact⟨_, .tuple ho hc hd (by simpa using hb)⟩
theorem TrC.can{K:PySem.W.Frag}{H:Hp}{x:V}{d:PyData}(t:TrC K H x d):d.canLay0=true:=by
 induction t with
 |non=>rfl
 |bl b=>rfl
 |int i=>rfl
 |str x h=>simp only[PyData.canLay0];exact h
 |tup e hl h ih=>rw[PyData.canLay0];exact zcc hl ih
section
variable{X:Cx}
theorem zpI(hu:X.A.units+64<cLine):OpR X (compareOp .Eq) (λx y H Q=>∃d e,TrC X.K H x d/\TrC X.K H y e/\min d.depth e.depth<=60/\Q (.bl (d.eqv e)) H):=by
 intro pins s σ H x y v u Q I rx ry h
 obtain⟨d,e,t1,t2,hd,q⟩:=h
 obtain⟨as,r1⟩:=t1.reads I v rx
 obtain⟨bs,r2⟩:=t2.reads I u ry
 exact SeqAt.compareEq_reads r1 r2 t1.can t2.can (by omega) ⟨.bl _,H,I,rfl,q⟩
theorem znh{K:PySem.W.Frag}(hK:X.K=K)(hu:X.A.units+64<cLine):OpR X (compareOp .Eq) (λx y H Q=>∃d e,TrC K H x d/\TrC K H y e/\min d.depth e.depth<=60/\Q (.bl (d.eqv e)) H):=by subst hK;exact zpI hu
theorem zej(hu:X.A.units+64<cLine):OpR X (compareOp .NotEq) (λx y H Q=>∃d e,TrC X.K H x d/\TrC X.K H y e/\min d.depth e.depth<=60/\Q (.bl (!d.eqv e)) H):=by
 intro pins s σ H x y v u Q I rx ry h
 obtain⟨d,e,t1,t2,hd,q⟩:=h
 obtain⟨as,r1⟩:=t1.reads I v rx
 obtain⟨bs,r2⟩:=t2.reads I u ry
 exact SeqAt.compareNe_reads r1 r2 t1.can t2.can (by omega) ⟨.bl _,H,I,rfl,q⟩
end
end RW
namespace L2
open PySem PySem.Spec PyProof.Rows
section
variable{X:Cx}{kx vx tg iter:Expr}{ifs:List Expr}{scope osc:Scope}{pos:Pos}{N':List Str}{src:List (Option Nat)}{wi:TI}{g:TG}{tc:TT}{tk tv:TE}
end
end L2
namespace HT
open PySem PySem.Spec PyProof.Rows L2
section
variable{prog:Program}{w:World}{A:Around}{E:Value->Shared->Prop}{s:Shared}{it d:Addr}{i ep:Nat}{ps:List (Value×Value)}
end
end HT
namespace L2
open PySem PySem.Spec PyProof.Rows
end L2
namespace HT
open PySem PySem.Spec PyProof.Rows L2
section
variable{prog:Program}{w:World}{A:Around}{E:Value->Shared->Prop}{s:Shared}
end
section
variable{prog:Program}{w:World}{A:Around}{E:Value->Shared->Prop}{s:Shared}{K:Type}[DecidableEq K]{knd:KeyKind prog w K}
end
end HT
namespace L2
open PySem PySem.Spec PyProof.Rows
section
variable{X:Cx}
inductive TwosAt(H:Hp):List Addr->List Str->List V->Prop
 |nil:TwosAt H [] [] []
 |cons {t:Addr} {x:Str} {y:V} {ts:List Addr} {hs:List Str} {ys:List V}:H t=some (.tup [.str x,y])->TwosAt H ts hs ys->TwosAt H (t::ts) (x::hs) (y::ys)
theorem zkJ{ts:List Addr}:∀{its:List Value},Vals (ts.map V.ref) its->its=ts.map Value.ref:=by
 induction ts with
 |nil=>intro its r;cases r;rfl
 |cons t ts ih=>intro its r;cases r with
  |cons a b=>rw[ih b];cases a;rfl
end
end L2
namespace L2
open PySem PySem.Spec PySem.W PyProof.Rows
def AtG{α:Type}(Oa:Hp->Addr->α->Prop)(H:Hp)(vs:List V)(ps:List α):Prop:=vs.length=ps.length/\∀(i:Nat) (v:V) (p:α),vs[i]?=some v->ps[i]?=some p->∃b,v= .ref b/\Oa H b p
section
variable{X:Cx}{K:PySem.W.Frag}
end
end L2
namespace L2
open PySem PySem.W PySem.Spec PyProof.Rows RW
noncomputable abbrev Ky:=Int×Int×List Str
theorem zhM{a b:Ky}(h:a≠b)(e:ltK a b=false):ltK b a=true:=by
 obtain⟨i,n,ps⟩:=a
 obtain⟨j,m,qs⟩:=b
 unfold ltK at *
 simp only at *
 by_cases h1:i=j
 ·by_cases h2:n=m
  ·subst h1 h2
   rw[if_pos rfl,if_pos rfl] at e⊢
   exact zie (λz=>h (by rw[z])) e
  ·rw[if_pos h1,if_neg h2] at e
   rw[if_pos h1.symm,if_neg (Ne.symm h2)]
   simp at e⊢;omega
 ·rw[if_neg h1] at e
  rw[if_neg (Ne.symm h1)]
  simp at e⊢;omega
noncomputable def zgk(k:Ky):PyData:= .tuple [.int k.1, .int k.2.1, .tuple (zt k.2.2)]
def KeyO(H:Hp)(b:Addr)(k:Ky):Prop:=∃p,H b=some (.tup [.int k.1, .int k.2.1, .ref p])/\H p=some (.tup (k.2.2.map V.str))/\∀y∈k.2.2,PyData.strOk y=true
theorem KeyO.tr{H:Hp}{b:Addr}{k:Ky}(x:KeyO H b k):Tr H (.ref b) (zgk k):=by
 obtain⟨p,e,ep,ok⟩:=x
 refine .tup e rfl λi v d e1 e2=>?_
 match i,e1,e2 with
 |0,e1,e2=>cases e1;cases e2;exact .int _
 |1,e1,e2=>cases e1;cases e2;exact .int _
 |2,e1,e2=>cases e1;cases e2;exact zdL ep ok
structure RawK(h:Heap)(b:Addr)(k:Ky):Prop where
 at_:∃p ti tn jts,IsTup h b #[.int k.1 ti, .int k.2.1 tn, .ref p]/\Vals (k.2.2.map V.str) jts/\IsTup h p jts.toArray/\(∃as,Reads h (.ref p) (.tuple (zt k.2.2)) as)/\(PyData.tuple (zt k.2.2)).canLay0=true
 rd:∃as,Reads h (.ref b) (zgk k) as
 can:(zgk k).canLay0=true
theorem zdO{h h':Heap}{a:Addr}{xs:Array Value}(x:IsTup h a xs)(k:∀b o,h.get? b=some o->h'.get? b=some o):IsTup h' a xs:=let⟨o,g,r⟩:=x;⟨o,k _ _ g,r⟩
theorem KeyO.raw{X:Cx}{pins:List (Addr×Obj)}{σ:L2.St}{H:Hp}{s:Shared}{h':Heap}(I:Inv X pins σ H s){b:Addr}{k:Ky}(x:KeyO H b k)(kp:∀b o,s.heap.get? b=some o->h'.get? b=some o):RawK h' b k:=by
 have t:=x.tr
 obtain⟨p,e,ep,ok⟩:=x
 obtain⟨its,r1,t1,_⟩:=I.tuple (SqT.of e)
 obtain⟨jts,s1,u1,_⟩:=I.tuple (SqT.of ep)
 obtain⟨_,_,_,rfl,x1,x2,x3⟩:=zjr r1
 obtain⟨ti,rfl⟩:=x1
 obtain⟨tn,rfl⟩:=x2
 cases x3
 obtain⟨as,rd1⟩:=(zdL ep ok).reads I (.ref p) rfl
 obtain⟨bs,rd2⟩:=t.reads I (.ref b) rfl
 exact⟨⟨p,ti,tn,jts,zdO t1 kp,s1,zdO u1 kp,⟨as,Reads.keeps kp rd1⟩,(zdL ep ok).can⟩,⟨bs,Reads.keeps kp rd2⟩,t.can⟩
section
variable{prog:Program}{w:World}{A:Around}{E:Value->Shared->Prop}{s:Shared}
theorem znR{a b:Addr}{k1 k2:Ky}{Q:Value->Shared->Prop}(hu:A.units+63<cLine)(x:RawK s.heap a k1)(y:RawK s.heap b k2)(q:Q (.bool (ltK k1 k2)) s):wpAny (model prog w) A (richCompare .Lt (.ref a) (.ref b)) Q E s:=by
 obtain⟨i1,n1,ps⟩:=k1
 obtain⟨i2,n2,qs⟩:=k2
 obtain⟨p,ti1,tn1,jts,t1,s1,u1,⟨as,rd1⟩,c1⟩:=x.at_
 obtain⟨p2,ti2,tn2,jts2,t2,s2,u2,⟨bs,rd2⟩,c2⟩:=y.at_
 obtain⟨⟨c1',d1,e1,f1⟩,ho,hc,m1,hd⟩:=id t1
 obtain⟨⟨c2',d2,e2,f2⟩,ho2,hc2,m2,hd2⟩:=id t2
 simp only at hc hd hc2 hd2
 subst hc hd hc2 hd2
 have mk:∀(k:Nat) (res:Bool),k<=3->ltK (i1,n1,ps) (i2,n2,qs)=res->
  (∀prog w i x y,i<k->([.int i1 ti1, .int n1 tn1, .ref p]:List Value)[i]?=some x->([.int i2 ti2, .int n2 tn2, .ref p2]:List Value)[i]?=some y->∀(E:Value->Shared->Prop) (Q:Bool->Shared->Prop),Q true s->wpAny (model prog w) A.in1 (eqBool x y) Q E s)->
  ((k=3/\res=false)\/∃x y,([.int i1 ti1, .int n1 tn1, .ref p]:List Value)[k]?=some x/\([.int i2 ti2, .int n2 tn2, .ref p2]:List Value)[k]?=some y/\(∀prog w (E:Value->Shared->Prop) (Q:Bool->Shared->Prop),Q false s->wpAny (model prog w) A.in1 (eqBool x y) Q E s)/\∀prog w (E:Value->Shared->Prop) (Q:Value->Shared->Prop),Q (.bool res) s->wpAny (model prog w) A.in1 (richCompare .Lt x y) Q E s)->
  wpAny (model prog w) A (richCompare .Lt (.ref a) (.ref b)) Q E s:=by
  intro k res hk3 er he hk
  refine richCompare_meets_room (op:= .Lt) ⟨_,ho,rfl⟩ ⟨_,ho2,rfl⟩ PySem.F.slot_tuple_lt PySem.F.entry_tuple_lt (PySem.F.args_tuple_lt_2 _ _) (zb5 a b m1 m2 d1 d2 f1 f2 [.int i1 ti1, .int n1 tn1, .ref p] [.int i2 ti2, .int n2 tn2, .ref p2] k res) ⟨ho,ho2,he,hk3,hk3,?_,⟨(λx=>nomatch x),by rw[er] at q;exact q⟩⟩ (by omega)
  rcases hk with⟨h1,h2⟩|h
  ·exact .inl ⟨h1,by rw[h2];rfl⟩
  ·exact .inr h
 have intE:∀{i j:Int} {t t':Tok} {b:Bool} (e:(i==j)=b) (prog:Program) (w:World) (E:Value->Shared->Prop) (Q:Bool->Shared->Prop),Q b s->wpAny (model prog w) A.in1 (eqBool (.int i t) (.int j t')) Q E s:=λe prog w E Q hq=>wpAny_eqBool_int (by rw[e];exact hq)
 have tupE:∀{b:Bool} (e:decide (ps=qs)=b) (prog:Program) (w:World) (E:Value->Shared->Prop) (Q:Bool->Shared->Prop),Q b s->wpAny (model prog w) A.in1 (eqBool (.ref p) (.ref p2)) Q E s:=λ{b} e prog w E Q hq=>SeqAt.eqAt_reads _ _ A.in1 s _ _ _ _ rd1 rd2 c1 c2 (by
  have:=Nat.le_trans (Nat.min_le_left (PyData.tuple (zt ps)).depth (PyData.tuple (zt qs)).depth) zdh
  show A.units+1+_<cLine
  simp only at *
  omega) prog w E Q (by rw[zcJ,e];exact hq)
 by_cases hi:i1=i2
 ·by_cases hn:n1=n2
  ·by_cases hq:ps=qs
   ·refine mk 3 false (Nat.le_refl _) (by unfold ltK;rw[if_pos hi,if_pos hn];subst hq;exact ze3 _) (λprog w i x y h3 hx hy E Q hQ=>?_) (.inl ⟨rfl,rfl⟩)
    match i,h3,hx,hy with
    |0,_,hx,hy=>cases hx;cases hy;exact intE (by simp[hi]) prog w E Q hQ
    |1,_,hx,hy=>cases hx;cases hy;exact intE (by simp[hn]) prog w E Q hQ
    |2,_,hx,hy=>cases hx;cases hy;exact tupE (decide_eq_true hq) prog w E Q hQ
   ·refine mk 2 (ltL ps qs) (by omega) (by unfold ltK;rw[if_pos hi,if_pos hn]) (λprog w i x y h3 hx hy E Q hQ=>?_) (.inr ⟨_,_,rfl,rfl,tupE (decide_eq_false hq),λprog w E Q hQ=>ziY s1 s2 u1 u2 (by show A.units+1<cLine;omega) hQ⟩)
    match i,h3,hx,hy with
    |0,_,hx,hy=>cases hx;cases hy;exact intE (by simp[hi]) prog w E Q hQ
    |1,_,hx,hy=>cases hx;cases hy;exact intE (by simp[hn]) prog w E Q hQ
  ·refine mk 1 (decide (n1<n2)) (by omega) (by unfold ltK;rw[if_pos hi,if_neg hn]) (λprog w i x y h3 hx hy E Q hQ=>?_) (.inr ⟨_,_,rfl,rfl,intE (by simp[hn]),λprog w E Q hQ=>(PyProof.Rows.lt_int hQ:wpAny (model prog w) A.in1 (compareOp .Lt (.int n1 tn1) (.int n2 tn2)) Q E s)⟩)
   match i,h3,hx,hy with
   |0,_,hx,hy=>cases hx;cases hy;exact intE (by simp[hi]) prog w E Q hQ
 ·exact mk 0 (decide (i1<i2)) (by omega) (by unfold ltK;rw[if_neg hi]) (λprog w i x y h3 hx hy E Q hQ=>absurd h3 (Nat.not_lt_zero _)) (.inr ⟨_,_,rfl,rfl,intE (by simp[hi]),λprog w E Q hQ=>(PyProof.Rows.lt_int hQ:wpAny (model prog w) A.in1 (compareOp .Lt (.int i1 ti1) (.int i2 ti2)) Q E s)⟩)
theorem zme{k1 k2:Ky}:(zgk k1).eqv (zgk k2)=decide (k1=k2):=by
 obtain⟨i1,n1,ps⟩:=k1
 obtain⟨i2,n2,qs⟩:=k2
 unfold zgk
 have e:=zcJ (xs:=ps) (ys:=qs)
 simp only[PyData.eqv,PyData.eqvAll,Bool.and_true] at e⊢
 rw[e]
 rw[Bool.eq_iff_iff]
 simp[Prod.mk.injEq]
theorem zjJ{k:Ky}:(zgk k).depth<=62:=by
 have:=zdh (xs:=k.2.2)
 unfold zgk
 simp only[PyData.depth,PyData.depthAll] at *
 omega
theorem zne{a b:Addr}{k1 k2:Ky}{Q:Bool->Shared->Prop}(hu:A.units+62<cLine)(x:RawK s.heap a k1)(y:RawK s.heap b k2)(q:Q (decide (k1=k2)) s):wpAny (model prog w) A (eqBool (.ref a) (.ref b)) Q E s:=by
 obtain⟨as,rd1⟩:=x.rd
 obtain⟨bs,rd2⟩:=y.rd
 exact SeqAt.eqAt_reads _ _ A s _ _ _ _ rd1 rd2 x.can y.can (by
  have:=Nat.le_trans (Nat.min_le_left (zgk k1).depth (zgk k2).depth) zjJ
  omega) prog w E Q (by rw[zme];exact q)
end
section
variable{X:Cx}{K:PySem.W.Frag}
end
section
variable{X:Cx}{K:PySem.W.Frag}
end
end L2
namespace L2
open PySem PySem.Spec PyProof.Rows
section
variable{X:Cx}
end
end L2
namespace RW
open PySem PySem.Spec PyProof.Rows L2
section
variable{α:Type}[DecidableEq α]{mm:α->α->α×α}
structure MM(mm:α->α->α×α):Prop where
 two:∀a b,mm a b=(a,b)\/mm a b=(b,a)
 sym:∀a b,mm a b=mm b a
noncomputable def ed(mm:α->α->α×α):List α->List (α×α)
 |a::b::r=>mm a b::ed mm (b::r)
 |_=> []
end
noncomputable def mmS(x y:Str):Str×Str:=(if ltS y x=true then y else x,if ltS x y=true then y else x)
structure SW(g:Str)(ps:List (Str×Str))(w:List Str):Prop where
 nd:w.Nodup
 last:w.getLast?=some g
 ties:∀p∈ed mmS w,p∈ps
structure WOk(hs w:List Str):Prop where
 ne:1<=w.length
 nd:w.Nodup
 mem:∀y∈w,y∈hs
structure Bf(g:Str)(hs:List Str)(ps:List (Str×Str))(ws:List (List Str))(n:Nat):Prop where
 nd:ws.Nodup
 sw:∀w∈ws,SW g ps w
 root:[g]∈ws
 src:∀y r,y::r∈ws->r≠ []->r∈ws.take n
 cl:∀y x r,x::r∈ws.take n->y∈hs->mmS y x∈ps->y∉x::r->y::x::r∈ws
structure Df(g:Str)(ps:List (Str×Str))(M:List Str->Option (List Str))(L F:List (List Str)):Prop where
 nd:L.Nodup
 fnd:F.Nodup
 fsub:∀w∈F,w∈L
 sw:∀w∈L,SW g ps w/\M w≠none
 root:[g]∈L
 src:∀y r,y::r∈L->r≠ []->r∈L/\r∉F
 cl:∀y x r,x::r∈L->x::r∉F->mmS y x∈ps->y∉x::r->M (y::x::r)≠none->y::x::r∈L
structure DfW(g:Str)(ps:List (Str×Str))(M:List Str->Option (List Str))(x:Str)(r ds:List Str)(L F:List (List Str)):Prop where
 nd:L.Nodup
 fnd:F.Nodup
 fsub:∀w∈F,w∈L
 sw:∀w∈L,SW g ps w/\M w≠none
 root:[g]∈L
 src:∀y q,y::q∈L->q≠ []->q∈L/\q∉F
 me:x::r∈L/\x::r∉F
 kids:∀y,y::x::r∈L->y∈ds
 cl:∀y a q,a::q∈L->a::q∉F->a::q≠x::r->mmS y a∈ps->y∉a::q->M (y::a::q)≠none->y::a::q∈L
 clw:∀y∈ds,y∉x::r->M (y::x::r)≠none->y::x::r∈L
section
variable{g x:Str}{ps:List (Str×Str)}{M:List Str->Option (List Str)}{r ds:List Str}{L F:List (List Str)}
end
end RW
namespace L2
open PySem PySem.Spec PyProof.Rows
section
variable{X:Cx}{pos:Pos}{pins:List (Addr×Obj)}{σ:St}{H:Hp}{s:Shared}
theorem Inv.thaw{d:Addr}{u:HO}{o:Obj}(I:Inv X pins σ H s)(e:H d=some (.frz o u))(h0:∀o' u',X.H₀ d≠some (.frz o' u')):Inv X pins σ (upd H d u) s where
 ok:=I.ok
 os:=I.os
 bare:=I.bare
 base:={
  keep:=I.base.keep
  slot:=I.base.slot
  free:=λb o h1 h2 h3=>by
   have:=I.base.free b o h1 h2 h3
   rw[zh λz=>by rw[z,e] at this;cases this];exact this
  there:=I.base.there
  tups:=λb xs h=>by
   have:=I.base.tups b xs h
   rw[zh λz=>by rw[z,e] at this;cases this];exact this
  frzs:=λb o u h=>by
   have:=I.base.frzs b o u h
   have hb:b≠d:=λz=>h0 o u (by rw[←z];exact h)
   rw[zh hb];exact this
  tbls:=λb ps h=>by
   obtain⟨more,this⟩:=I.base.tbls b ps h
   exact⟨more,by rw[zh λz=>by rw[z,e] at this;cases this];exact this⟩}
 loc:=I.loc
 cell:=I.cell
 free:=by
  have:=I.free
  rw[zh λz=>by rw[z,e] at this;cases this];exact this
 freeC:=λx c h=>by
  have:=I.freeC x c h
  rw[zh λz=>by rw[z,e] at this;cases this];exact this
 pin:=λp hp=>by
  obtain⟨h1,h2,h3⟩:=I.pin p hp
  exact⟨h1,by rw[zh λz=>by rw[z,e] at h2;cases h2];exact h2,h3⟩
 hok:=λa o' h=>by
  have st:∀{v:HO},ObjOk X.prog X.w H s.heap a v->ObjOk X.prog X.w (upd H d u) s.heap a v:=λx=>x.stay (λ_ _ _ q=>q) (λb q=>by rw[zh λz=>by rw[z,e] at q;cases q];exact q) (λb xs q=>by rw[zh λz=>by rw[z,e] at q;cases q];exact q)
  by_cases z:a=d
  ·subst z
   rw[zb] at h
   cases h
   exact st (I.hok a _ e).2
  ·rw[zh z] at h
   exact st (I.hok a _ h)
 len:=I.len
theorem zpH{e:Expr}{te:TE}(h:QE X e te):QE X e (λσ H Q=>te σ H λv H'=>∃d o u,H' d=some (.frz o u)/\(∀o' u',X.H₀ d≠some (.frz o' u'))/\Q v (upd H' d u)):=⟨by
 intro pins s σ H Q I q
 refine thn (h.o pins s σ H _ I q) λv s1 ⟨x,H1,I1,r1,q1⟩=>?_
 obtain⟨d,o,u,e,h0,q1⟩:=q1
 exact⟨x,_,I1.thaw e h0,r1,q1⟩⟩
variable{K:PySem.W.Frag}
end
end L2
namespace RW
open PySem PySem.Spec PyProof.Rows L2
section
variable{X:Cx}
inductive ChAt(H:Hp):List (Key×V)->List (Str×Option (List Str))->Prop
 |nil:ChAt H [] []
 |cons {x:Str} {v:V} {o:Option (List Str)} {kvs:List (Key×V)} {cs:List (Str×Option (List Str))}:zqk H v o->ChAt H kvs cs->ChAt H ((Sum.inr x,v)::kvs) ((x,o)::cs)
end
end RW
namespace HT
open PySem PySem.Spec PyProof.Rows L2
section
variable{prog:Program}{w:World}{A:Around}{E:Value->Shared->Prop}{s:Shared}
end
section
variable{prog:Program}{w:World}{A:Around}{E:Value->Shared->Prop}{s:Shared}
end
end HT
namespace L2
open PySem PySem.Spec PyProof.Rows
section
variable{X:Cx}{K:PySem.W.Frag}
end
end L2
namespace HT
open PySem PySem.Spec PyProof.Rows L2
structure Zp3(z TI TO i1 i2 i3:Addr):Prop where
 TIz:TI≠z
 TOz:TO≠z
 i1z:i1≠z
 i2z:i2≠z
 i3z:i3≠z
 TITO:TI≠TO
 TIi1:TI≠i1
 TIi2:TI≠i2
 TIi3:TI≠i3
 TOi1:TO≠i1
 TOi2:TO≠i2
 TOi3:TO≠i3
 i12:i1≠i2
 i13:i1≠i3
 i23:i2≠i3
section
variable{prog:Program}{w:World}{A:Around}{E:Value->Shared->Prop}{s:Shared}
end
section
variable{prog:Program}{w:World}{A:Around}{E:Value->Shared->Prop}{s:Shared}
end
end HT
namespace L2
open PySem PySem.Spec PyProof.Rows
section
variable{X:Cx}{K:PySem.W.Frag}
end
section
variable{X:Cx}{tg:Expr}
end
end L2
namespace RW
open PySem PySem.Spec PyProof.Rows L2
structure Pp where
 one:Str
 to:Str
 nr:Int
 way:Option (List Str)
 marks:List Str
structure PpOk(hs:List Str)(ps:List (Str×Str))(p:Pp):Prop where
 one:p.one∈hs
 to:p.to∈hs
 tied:p.to∈zeS ps p.one
 nr:1<=p.nr
 mnm:∀x∈p.marks,zi x=true
 ml:p.marks.length<=90
 non:p.way=none->p.marks=[]
 way:∀w,p.way=some w->1<=w.length/\w.length<=10/\∀x∈w,zi x=true
inductive Ch(hs:List Str)(lks hds:List D):Str->List Str->List Pp->Prop
 |one {to g:Str} {nr:Int} {m:List Str} (h1:1<=nr) (h2:zQ [g] (some to) (zv hs hds g) []=some m):Ch hs lks hds to [g] [⟨g,to,nr,some [g],m⟩]
 |more {to y x:Str} {ws:List Str} {nr:Int} {m:List Str} {q:Pp} {P:List Pp} (h:Ch hs lks hds y (x::ws) (q::P)) (h0:zcB (zT (y::x::ws) q.marks (zv hs lks y))=false) (h1:1<=nr)
   (h2:zQ (y::x::ws) (some to) (zv hs hds y) q.marks=some m):Ch hs lks hds to (y::x::ws) (⟨y,to,nr,some (y::x::ws),m⟩::q::P)
section
variable{hs:List Str}{lks hds:List D}{to:Str}{w:List Str}{P:List Pp}
end
end RW
namespace HT
open PySem PySem.Spec PyProof.Rows L2
section
variable{prog:Program}{w:World}{A:Around}{R:Result->Shared->Prop}{I:Addr}{fp wr:List Addr}{n:Nat}{P:Nat->Value->Prop}{St:Nat->Heap->Prop}
end
section
variable{prog:Program}{w:World}{A:Around}{E:Value->Shared->Prop}{s:Shared}
end
end HT
namespace L2
open PySem PySem.W PySem.Spec PyProof.Rows PyProof.V
section
variable{X:Cx}
end
end L2
namespace RW
open PySem PySem.Spec PyProof.Rows L2
theorem zmR{a b:Str}(h1:leS a b=true)(h2:leS b a=true):a=b:=by
 unfold leS at *
 rw[Bool.not_eq_true'] at *
 by_cases e:a=b
 ·exact e
 ·rw[zc0 e h2] at h1;cases h1
theorem zgC:∀{ts:List Str},sortedS ts=true->ts.Pairwise (λa b=>leS a b=true)
 |[],_=> .nil
 |[a],_=>List.pairwise_singleton _ _
 |a::b::ts,h=>by
  have h':(!ltCps b.cps.toList a.cps.toList&&risingS b ts)=true:=h
  rw[Bool.and_eq_true] at h'
  have hr:sortedS (b::ts)=true:=h'.2
  have hab:leS a b=true:=by
   have h1:ltS b a=false:=by
    have:=h'.1
    rw[ltCps_eq] at this
    simpa using this
   unfold leS
   rw[h1];rfl
  have ih:=zgC hr
  refine List.pairwise_cons.mpr ⟨λz hz=>?_,ih⟩
  rcases List.mem_cons.mp hz with rfl|hz
  ·exact hab
  ·exact zlK a b z hab ((List.pairwise_cons.mp ih).1 z hz)
theorem znz{ts l:List Str}(hp:ts.Perm l)(hs:sortedS ts=true):ts=srt l:=
 (hp.trans (zfA l).symm).eq_of_pairwise (λa b _ _ h1 h2=>zmR h1 h2) (zgC hs) (List.pairwise_mergeSort zlK zom l)
noncomputable def zgA:Sp:=λvs H Q _=>∃(pm:Addr) (v:V) (t:List Str) (w m:Str),vs=[.ref pm,v]/\H pm=some (.tup (t.map V.str))/\Rep H v (.tup [.str w, .str m])/\(∀x∈t,zi x=true)/\zi m=true/\t.length<=60/\∀(p:Addr) (H':Hp),H' p=some (.tup ((zfH t w m).map V.str))->Same H H'->Q (.ref p) H'
def zg1(rs:List D):Prop:=rs.length<=90/\∀r∈rs,∃cs x,r= .tup [.tup cs,x]/\(∀c∈cs,zL c=true)/\(x= .tup [.str "keep"]\/∃w m,x= .tup [.str w, .str m]/\(w="put"\/w="strike")/\zi m=true)
theorem zff{d:D}(h:zcb d=true):∃rs,d= .tup rs/\zg1 rs:=by
 cases d with
 |tup rs=>
  have h:(decide (rs.length<=90)&&rs.all zb6)=true:=h
  rw[Bool.and_eq_true] at h
  refine⟨rs,rfl,of_decide_eq_true h.1,λr hr=>?_⟩
  obtain⟨cs,x,rfl,h4,hc,hx⟩:=zjZ (List.all_eq_true.mp h.2 r hr)
  exact⟨cs,x,rfl,hc,zlt hx⟩
 |_=>cases h
structure Mst(rs:List D)(Pr:Nat->List Str->Prop):Prop where
 skip:∀i t,Pr i t->Pr (i+1) t
 next:∀i t w m cs,Pr i t->rs[i]?=some (.tup [.tup cs, .tup [.str w, .str m]])->Pr (i+1) (zfH t w m)
 ok:∀i t,i<=rs.length->Pr i t->(∀y∈t,zi y=true)/\t.length<=60
noncomputable def zel:Sp:=λvs H Q _=>∃(v:V) (pw pm:Addr) (vt:V) (x:Str) (ws ms:List Str) (to:Option Str) (g:Str) (hs:List Str) (ps:List (Str×Str)) (lks hds:List D) (j:Nat) (rs:List D) (Pr:Nat->List Str->Prop),vs=[v, .ref pw, .ref pm,vt]/\Rep H v (zaf g hs ps lks hds)/\TownOk g hs ps lks hds/\hs[j]?=some x/\hds[j]?=some (.tup rs)/\zg1 rs/\Mst rs Pr/\Pr 0 ms/\H pw=some (.tup ((x::ws).map V.str))/\H pm=some (.tup (ms.map V.str))/\TO vt to/\(∀y∈x::ws,zi y=true)/\ws.length<=90/\∀(u:V) (H':Hp),zqk H' u (zQ (x::ws) to rs ms)->Same H H'->Q u H'
theorem zmE{t:List Str}{w m:Str}:(zfH t w m).length<=t.length+1:=by
 unfold zfH
 rw[(zfA _).length_eq]
 unfold zbK
 rw[List.length_append]
 have:=List.length_filter_le (λx=>!decide (x=m)) t
 split<;>simp<;>omega
theorem zis{t:List Str}{w m y:Str}(h:y∈zfH t w m):y∈t\/y=m:=by
 unfold zfH at h
 rw[(zfA _).mem_iff] at h
 unfold zbK at h
 rcases List.mem_append.mp h with h|h
 ·exact .inl (List.mem_filter.mp h).1
 ·split at h
  ·exact .inr (List.mem_singleton.mp h)
  ·cases h
def Mn(c i:Nat)(t:List Str):Prop:=(∀y∈t,zi y=true)/\t.length<=c+i
theorem zm0{rs:List D}{c:Nat}(h:zg1 rs)(hc:c+rs.length<=60):Mst rs (Mn c) where
 skip:=λi t h=>⟨h.1,by have:=h.2;omega⟩
 next:=λi t w m cs M e=>by
  obtain⟨cs',x,e1,_,hx⟩:=h.2 _ (List.mem_of_getElem? e)
  cases e1
  rcases hx with z|⟨w',m',e2,_,hm⟩
  ·cases z
  ·cases e2
   refine⟨λy hy=>?_,by have:=zmE (t:=t) (w:=w) (m:=m);have:=M.2;omega⟩
   rcases zis hy with h|h
   ·exact M.1 y h
   ·rw[h];exact hm
 ok:=λi t hi M=>⟨M.1,by have:=M.2;omega⟩
theorem zc1{ws:List Str}{to:Option Str}:∀{rs:List D} {ms t:List Str},(∀r∈rs,∃cs x,r= .tup [.tup cs,x]/\(∀c∈cs,zL c=true)/\(x= .tup [.str "keep"]\/∃w m,x= .tup [.str w, .str m]/\(w="put"\/w="strike")/\zi m=true))->(∀y∈ms,zi y=true)->zQ ws to rs ms=some t->∀y∈t,zi y=true
 |[],ms,t,_,h,e=>by rw[zQ] at e;cases e;exact h
 |r::rs,ms,t,hr,h,e=>by
  obtain⟨cs,x,rfl,_,hx⟩:=hr r List.mem_cons_self
  have hr':=λr h=>hr r (List.mem_cons_of_mem _ h)
  rw[zQ] at e
  split at e
  ·rcases hx with rfl|⟨w,m,rfl,_,hm⟩
   ·cases e
   ·exact zc1 hr' (λy hy=>(zis hy).elim (h y) λz=>by rw[z];exact hm) e
  ·exact zc1 hr' h e
section
variable{g:Str}{hs:List Str}{ps:List (Str×Str)}{lks hds:List D}
end
theorem vr{α:Type}{A Q:α->Prop}{v:α}(h:A v)(q:Q v):∃v,A v/\Q v:=⟨v,h,q⟩
theorem ixT{K:PySem.W.Frag}{p:Addr}{xs:List V}{i:Int}{v:V}{H:Hp}{Q:V->Prop}(h:H p=some (.tup xs))(e:atI xs i=some v)(q:Q v):∃p' xs' i' v',V.ref p= .ref p'/\V.int i= .int i'/\SqT K H p' xs'/\atI xs' i'=some v'/\Q v':=⟨p,xs,i,v,rfl,rfl, .inl (.inl h),e,q⟩
theorem ixL{K:PySem.W.Frag}{p:Addr}{xs:List V}{i:Int}{v:V}{H:Hp}{Q:V->Prop}(h:H p=some (.lst xs))(e:atI xs i=some v)(q:Q v):∃p' xs' i' v',V.ref p= .ref p'/\V.int i= .int i'/\SqL K H p' xs'/\atI xs' i'=some v'/\Q v':=⟨p,xs,i,v,rfl,rfl,SqL.of h,e,q⟩
theorem zq2{sa sb:TS}{N B C:L2.St->Hp->Prop}{R:VK}{σ:L2.St}{H:Hp}(k:∀n:L2.St->Hp->Prop,(∀σ' H',sb ⟨N,R,B,C⟩ σ' H'->n σ' H')->sa ⟨n,R,B,C⟩ σ H):zlj sa sb ⟨N,R,B,C⟩ σ H:=k _ λ_ _ h=>h
section
variable{α β γ δ ε ζ η θ:Type}
theorem ex2{p:α->β->Prop}(a:α)(b:β)(h:p a b):∃a b,p a b:=⟨a,b,h⟩
theorem ex3{p:α->β->γ->Prop}(a:α)(b:β)(c:γ)(h:p a b c):∃a b c,p a b c:=⟨a,b,c,h⟩
theorem ex4{p:α->β->γ->δ->Prop}(a:α)(b:β)(c:γ)(d:δ)(h:p a b c d):∃a b c d,p a b c d:=⟨a,b,c,d,h⟩
theorem ex8{p:α->β->γ->δ->ε->ζ->η->θ->Prop}(a:α)(b:β)(c:γ)(d:δ)(e:ε)(f:ζ)(g:η)(i:θ)(h:p a b c d e f g i):∃a b c d e f g i,p a b c d e f g i:=⟨a,b,c,d,e,f,g,i,h⟩
end
end RW
namespace L2
open PySem PySem.Spec PyProof.Rows
theorem zkY{P:Program}{w:World}{K:PySem.W.Frag}{tg:Expr}(d it:Addr)(hne:d≠it)(o:Obj)(u:HO)(vs:List V)(kvs:List (Key×Value))(ep:Nat)
 (dat:∀h:Heap,h.get? d=some o->h.DictAt (zU P w) d kvs ep) (rel:∀(i:Nat) (v:V),vs[i]?=some v->∃q,kvs[i]?=some q/\RelV v q.2) (hl:vs.length=kvs.length):
 Turn P w K tg (Itd d o u vs) [it] it (λi h=>i<=kvs.length/\h.IsValIter it d i kvs.length ep) where
 mem:=by simp
 obj:=λi h st b hb=>by
  obtain⟨_,o,e,c,dd⟩:=st
  have:b=it:=by simpa using hb
  subst this
  exact⟨o,e,λv z=>by rw[dd] at z;cases z⟩
 keep:=λi h h' st k=>⟨st.1,st.2.at λo e=>k it (by simp) o e⟩
 item:=by
  intro X hP hw hK hc i pins s σ H E I hf st hg
  subst hP hw hK
  have hi:i<vs.length:=hg.1
  have hm:=dat s.heap ((show ObjOk X.prog X.w H s.heap d (.frz o u)from I.hok d _ hg.2)).1
  obtain⟨⟨k,u'⟩,hu,ru⟩:=rel i vs[i] (by simp[hi])
  obtain⟨f0,f1,f2,f3,f4,f5⟩:=hf it (by simp)
  refine wpAny_pyNext_values_item st.2 hm hu λh' st' sb=>?_
  have I1:Inv X pins σ H {s with heap:=h'}:=I.turned (t':=s.toks) (λb o hb e=>(sb.2 b hb).trans e) f0 f1 f3 f4 f5
  obtain⟨o2,e,c,dd⟩:=id st'
  exact⟨u',rfl,zkv (s:={s with heap:=h'}) e c dd (by decide) ⟨vs[i],H,I1,ru,⟨rfl,by simp[hi]⟩,⟨by omega,st'⟩,λb hb=>(hf b hb).1⟩⟩
 done:=by
   intro X hP hw hK hc i pins s σ H E I hf st hg
   subst hP hw hK
   have hi:vs.length<=i:=hg.1
   have hm:=dat s.heap ((show ObjOk X.prog X.w H s.heap d (.frz o u)from I.hok d _ hg.2)).1
   obtain⟨f0,f1,f2,f3,f4,f5⟩:=hf it (by simp)
   exact wpAny_pyNext_values_end (I.ok.hd hc) st.2 hm (List.getElem?_eq_none (by omega)) λh' eb=>⟨rfl,I.turned (t':=s.toks) (λb o hb e=>eb b o hb e) f0 f1 f3 f4 f5⟩
 self:=λA i s Q E st h=>wpAny_pyIter_valiter st.2 h
noncomputable def zqh(tl:TE):TI:=λσ H R=>tl σ H λx H1=>∃d kvs,x= .ref d/\H1 d=some (.dK kvs)/\∀(o:Obj),(kvs.map (·.1)).Nodup->R (Itd d o (.dK kvs) (kvs.map (·.2))) (upd H1 d (.frz o (.dK kvs)))
theorem zo7{X:Cx}{o tg:Expr}{to:TE}{apos cpos:Pos}(ho:QE X o to)(hbase:attributeBase o "values" X.env (eval o X.env)=eval o X.env:=by rfl)(hline:(apos.endLine==cpos.line)=true:=by rfl):QI X tg (.Call (.Attribute o "values" apos) [] [] cpos) (zqh to):=⟨by
 intro pins s σ H R I h
 refine wpAny_Call_method0_late hbase hline (thn (ho.o pins s σ H _ I h) λv s1 ⟨x,H1,I1,r1,q1⟩=>?_)
 obtain⟨d,kvs,rfl,e,q⟩:=q1
 cases r1
 obtain⟨hz,nsys,vs,rel,hD⟩:=zkr I1.hok e
 obtain⟨ob,es,ep,g,ex,dat,ko,pr,nd⟩:=id hD
 have ety:s1.TypeIs (.ref d) "dict":=⟨ob,g,ex.1⟩
 have dlt:d<s1.heap.objs.size:=Heap.lt_size g
 have dat':∀h:Heap,h.get? d=some ob->h.DictAt (zU X.prog X.w) d vs ep:=λh e=>⟨ob,es,e,ex,dat,ko,pr,nd⟩
 have nd':(kvs.map (·.1)).Nodup:=by rw[ze1 rel];exact nd
 obtain⟨hll,hget⟩:=zdN rel
 refine⟨"dict","dict.values",PySem.F.plainAttrs_dict,PySem.F.slot_dict_values,PySem.F.type_dict_values,ety,λa z=>?_,Calls.callWith_builtin rfl (PySem.evalArgs_none ?_)⟩
 ·cases z;exact⟨ob,g,ex.2.1⟩
 refine wpAny_call_entry PySem.F.slot_dict_values ety PySem.F.entry_dict_values ?_ (PySem.F.args_dict_values_1 _)
 refine wpAny_bind ?_
 unfold Builtin.Dict.noArgs
 refine wpAny_bind (wpAny_notOrdered_dict ety ?_)
 show wpAny _ _ (pure d) _ _ s1
 refine wpAny_pure ?_
 show wpAny _ _ (Builtin.Dict.showsAll d>>=_) _ _ s1
 unfold Builtin.Dict.showsAll
 rw[if_neg (by rw[nsys];exact Bool.false_ne_true)]
 refine wpAny_bind (wpAny_pure ?_)
 refine wpAny_bind (wpAny_newObj_type (wpAny_pure ⟨_,rfl,?_⟩))
 have hv:Heap.IsValuesView (s1.heap.push {cls:= .type "dict_values",data:= .fields #[.ref d]}) s1.heap.objs.size d:=⟨_,Heap.get?_push_size _ rfl,rfl,rfl⟩
 have I2:Inv X pins σ (upd H1 d (.frz ob (.dK kvs))) {s1 with heap:=s1.heap.push {cls:= .type "dict_values",data:= .fields #[.ref d]},toks:=s1.toks}:=(I1.frzK e g).kept (t':=s1.toks) λb o e=>Heap.get?_push_of_some _ e
 refine wpAny_pyIter_values (s:={s1 with heap:=s1.heap.push {cls:= .type "dict_values",data:= .fields #[.ref d]}}) hv (dat' _ (Heap.get?_push_of_some _ g)) ?_
 have itn:(s1.heap.push {cls:= .type "dict_values",data:= .fields #[.ref d]}).objs.size=s1.heap.objs.size+1:=Heap.size_push ..
 refine⟨_,[(s1.heap.push {cls:= .type "dict_values",data:= .fields #[.ref d]}).objs.size],_,_,upd H1 d (.frz ob (.dK kvs)),rfl,I2.kept (t':=s1.toks) λb o e=>Heap.get?_push_of_some _ e,zkY d _ (by rw[itn];exact Nat.ne_of_lt (Nat.lt_succ_of_lt dlt)) ob (.dK kvs) (kvs.map (·.2)) vs ep dat' (λi v hv=>?_) (by rw[List.length_map];exact hll),⟨Nat.zero_le _,⟨_,Heap.get?_push_size _ rfl,rfl,rfl⟩⟩,λb hb=>?_,q ob nd'⟩
 ·rw[List.getElem?_map] at hv
  cases hz:kvs[i]? with
  |none=>rw[hz] at hv;cases hv
  |some p=>
   rw[hz] at hv;cases hv
   have hi:i<vs.length:=by have:=(List.getElem?_eq_some_iff.mp hz).1;omega
   exact⟨vs[i],by simp[hi],(hget i p vs[i] hz (by simp[hi])).2⟩
 ·have:b=(s1.heap.push {cls:= .type "dict_values",data:= .fields #[.ref d]}).objs.size:=by simpa using hb
  subst this
  refine I2.fpOk (Nat.le_refl _) ?_
  rw[zh (by rw[itn];exact Nat.ne_of_gt (Nat.lt_succ_of_lt dlt))]
  exact I1.hok.fresh (by rw[itn];exact Nat.le_succ _)⟩
end L2
namespace L2
open PySem PySem.W PySem.Spec PyProof.Rows
section
variable{prog:Program}{w:World}{A:Around}{E:Value->Shared->Prop}{s:Shared}
theorem zeW{r d:Addr}{T:String}{OK:Heap->Prop}{ks:List Value}{ss:List Str}{R:Value->Shared->Prop}(K:KdlSrc prog w T r d ks.length (λi v=>ks[i]?=some v) OK)(hh:A.handled=none)(hok:OK s.heap)(hS:StrsAre ks ss)(h64:ks.length<64)
 (q:∀(D:Addr) (out:Array Value) (ss':List Str) (h':Heap) (tk e:Nat),StrsAre out.toList ss'->ss'.Perm ss->sortedS ss'=true->(∀b o,s.heap.get? b=some o->h'.get? b=some o)->s.heap.objs.size<=D->h'.get? D=some (seqObj "list" out e)->R (.ref D) {s with heap:=h',toks:=tk}):
 wpAny (model prog w) A (call (.builtin "sorted") [.ref r]) R E s:=by
 refine Calls.call_function_entry kind_sorted plain_sorted entry_sorted (args_sorted1 _) ?_
 unfold Builtin.«sorted»
 refine wpAny_bind (m:=checkCount "sorted" 1 1 _) (wpAny_pure (wpAny_bind (zfY (A:=A.in1) K hh hok (by rw[sizeLine_eq];omega) λh1 tk acc kp gr0 hacc=>?_)))
 have ea:acc.toList=ks:=by
  apply List.ext_getElem?
  intro i
  rcases Nat.lt_or_ge i ks.length with h|h
  ·have hi:i<acc.size:=by rw[hacc.1];exact h
   rw[Array.getElem?_toList,Array.getElem?_eq_getElem hi]
   exact(hacc.2 i acc[i] (by rw[Array.getElem?_eq_getElem hi])).symm
  ·rw[List.getElem?_eq_none h,List.getElem?_eq_none (by rw[Array.length_toList,hacc.1];exact h)]
 rw[ea]
 refine wpAny_bind (wpAny_newList ?_ (by rw[sizeLine_eq];omega))
 have hD:(h1.push (seqObj "list" ks.toArray 0)).get? h1.objs.size=some (seqObj "list" ks.toArray 0):=Heap.get?_push_size _ rfl
 have k2:∀b o,s.heap.get? b=some o->(h1.push (seqObj "list" ks.toArray 0)).get? b=some o:=λb o e=>Heap.get?_push_of_some _ (kp b o e)
 have gr:s.heap.objs.size<=h1.objs.size:=Nat.le_of_lt gr0
 show wpAny _ _ _ _ _ {s with heap:=h1.push (seqObj "list" ks.toArray 0),toks:=tk}
 refine wpAny_bind (wpAny_holding (wpAny_call_entry slot_list_sort ⟨_,hD,rfl⟩ entry_list_sort (list_sort_treeK strKind_oneLt (s:={s with heap:=h1.push (seqObj "list" ks.toArray 0),toks:=tk}) hD hS.keysOf (λv1 v2 rest e=>?_) h64 λst' hp hs=>?_) (args_list_sort _)))
 ·subst e
  exact keyKind_strs hS
 ·obtain ⟨ss',a1,a2,a3⟩:=sorted_out_str hS hp hs
  obtain⟨e,he⟩:=sortedHeap_at (h:=h1.push (seqObj "list" ks.toArray 0)) (vs:=ks) (out:=Array.map (λx=>x.snd) (arrOf st')) hD
  refine⟨_,rfl,wpAny_pure ⟨_,rfl,q h1.objs.size _ ss' _ tk e a1 a2 a3 (λb o hb=>?_) gr he⟩⟩
  have lb:=Heap.lt_size hb
  rw[sortedHeap_old (Nat.ne_of_lt (Nat.lt_of_lt_of_le lb gr)) (Heap.lt_size (k2 b o hb))]
  exact k2 b o hb
end
section
variable{X:Cx}{K:PySem.W.Frag}
theorem zhA(hc:X.calm=true):CallR X (.builtin "sorted") (λxs H Q=>∃(d:Addr) (kvs:List (Key×V)) (ss:List Str),xs=[.ref d]/\H d=some (.dK kvs)/\kvs.map (·.1)=ss.map Sum.inr/\ss.length<64/\
 ∀(ss':List Str) l,ss'.Perm ss->ss'.Pairwise (λa b=>ltS a b=true)->H l=none->Q (.ref l) (upd H l (.lst (ss'.map V.str)))):=by
 intro pins s σ H xs us Q I r h
 obtain⟨d,kvs,ss,rfl,e,hk,h64,q⟩:=h
 obtain⟨u,rfl,ru⟩:=zc8 r
 cases ru
 obtain⟨hz,nsys,vs,rel,o,es,ep,g,ex,dat,ko,pr,nd⟩:=zkr I.hok e
 have raw:RawD s.heap d (es.toList.map (·.key)) ep:=⟨o,es,g,ex,dat,rfl⟩
 have vk:Vals (ss.map V.str) (es.toList.map (·.key)):=by
  have h1:=zfW pr
  have h2:ss.map V.str=vs.map λkv=>kV kv.1:=by
   have:=ze1 rel
   rw[hk] at this
   have:=congrArg (List.map kV) this
   rw[List.map_map,List.map_map] at this
   exact this
  rw[h2];exact h1
 have hnd:ss.Nodup:=by
  rw[←ze1 rel,hk] at nd
  exact(List.pairwise_map.mp nd).imp λh z=>h (by rw[z])
 have hS:=za9 vk
 have hl:=vk.length
 rw[List.length_map] at hl
 refine zeW (zkk (ks:=es.toList.map (·.key)) (ep:=ep) nsys) (I.ok.hd hc) raw hS (by omega) λD out ss' h' tk c a1 a2 a3 kp hD he=>?_
 refine⟨.ref D,_,I.laid (a:=D) (o:= .lst (ss'.map V.str)) (t':=tk) kp hD ⟨?_,out.toList,c,?_,?_⟩,rfl,q ss' D a2 (zfb ss' a3 (a2.nodup_iff.mpr hnd)) (I.hok.fresh hD)⟩
 ·rw[List.length_map,a2.length_eq];exact Nat.le_of_lt (zp (by omega))
 ·have mk:∀{vs:List Value} {zs:List Str},StrsAre vs zs->Vals (zs.map V.str) vs:=by
   intro vs zs h
   induction h with
   |nil=>exact .nil
   |cons x t _ ih=>exact .cons ⟨t,rfl⟩ ih
  exact mk a1
 ·rw[Array.toArray_toList];exact he
end
end L2
namespace HT
open PySem PySem.Spec PyProof.Rows L2
section
variable{prog:Program}{w:World}{A:Around}{R:Result->Shared->Prop}{I:Addr}{fp wr:List Addr}{n:Nat}{P:Nat->Value->Prop}{St:Nat->Heap->Prop}
def zlT(val:Nat->Value)(lt:Nat->Nat->Bool)(j:Nat)(items:Array Value):Prop:=(j=0/\items= #[])\/∃m<j,items= #[val m,val m]/\∀i<j,i≠m->lt m i=true
theorem zlY(W:Walks prog w A.in1 I fp wr n P St)(val:Nat->Value)(lt:Nat->Nat->Bool)(OK:Heap->Prop)(hval:∀i v,P i v->v=val i)(S:Addr)(hSf:S∉fp)
 (frame:∀h h',OK h->(∀b o,b∉wr->b≠S->h.get? b=some o->h'.get? b=some o)->OK h')
 (cmp:∀i j (s':Shared) (Q E:Value->Shared->Prop),i<n->j<n->i≠j->OK s'.heap->Q (.bool (lt i j)) s'->wpAny (model prog w) A.in1 (richCompare .Lt (val i) (val j)) Q E s')
 (tri:∀i j,i<n->j<n->i≠j->lt i j=false->lt j i=true) (tr:∀i j k,lt i j=true->lt j k=true->lt i k=true) (hn:0<n):
 ∀(k j:Nat) (s:Shared) (items:Array Value) (c:Nat),n -j=k->j<=n->St j s.heap->OK s.heap->zlT val lt j items->s.heap.get? S=some {cls:= .type "list",dict:=none,data:= .seq items c,slots:= #[]}->
 (∀m h' tk,m<n->(∀i<n,i≠m->lt m i=true)->(∀b o,b∉wr->b≠S->s.heap.get? b=some o->h'.get? b=some o)->R (.ok (.ret (val m))) {s with heap:=h',toks:=tk})->
 codeAny (model prog w) A (.builtin "min.loop" ⟨[.ref I, .none, .ref S],[]⟩) R s:=by
 have hSw:S∉wr:=λh=>hSf (W.sub _ h)
 have nm:(toString "min"++toString ".loop":String)="min.loop":=by decide
 intro k
 induction k with
 |zero=>
  intro j s items c hk hj hst ok hb hS hR
  have ej:j=n:=by omega
  subst ej
  refine codeAny_builtin F.entry_min_loop ?_
  rw[Around.under_plainId F.plain_min_loop _]
  show wpAny _ A.in1 (seqItems? (.ref S)>>=_) _ _ s
  refine wpAny_bind (wpAny_seqItems hS rfl ?_)
  show wpAny _ A.in1 (tryCatch (pyNext (.ref I)) _>>=_) _ _ s
  refine wpAny_bind (wpAny_tryCatch (W.done s _ _ hst λh' tk hk'=>?_))
  have hS':=hk' S _ hSw hS
  rcases hb with⟨z,_⟩|⟨m,hm,rfl,hbest⟩
  ·omega
  ·show wpAny _ A.in1 (updateSeq S (λ_=> #[])>>=_) _ _ _
   refine wpAny_bind (wpAny_updateSeq hS' rfl (wpAny_bind (wpAny_letGo (wpAny_pure ?_))))
   exact hR m _ tk hm hbest λb o hbw hbS e=>(Heap.get?_update_other _ _ (Ne.symm hbS)).trans (hk' b o hbw e)
 |succ k ih=>
  intro j s items c hk hj hst ok hb hS hR
  refine codeAny_builtin F.entry_min_loop ?_
  rw[Around.under_plainId F.plain_min_loop _]
  show wpAny _ A.in1 (seqItems? (.ref S)>>=_) _ _ s
  refine wpAny_bind (wpAny_seqItems hS rfl ?_)
  show wpAny _ A.in1 (tryCatch (pyNext (.ref I)) _>>=_) _ _ s
  refine wpAny_bind (wpAny_tryCatch (W.item j s _ _ (by omega) hst λv h' tk hP hst' hk'=>?_))
  have hS':=hk' S _ hSw hS
  have ev:=hval _ _ hP
  subst ev
  have okh:OK h':=frame _ _ ok λb o b1 _ e=>hk' b o b1 e
  have go:∀(its:Array Value) (h2:Heap) (tk2 c2:Nat),zlT val lt (j+1) its->h2.get? S=some {cls:= .type "list",dict:=none,data:= .seq its c2,slots:= #[]}->St (j+1) h2->(∀b o,b∉wr->b≠S->s.heap.get? b=some o->h2.get? b=some o)->
   codeAny (model prog w) A (.builtin "min.loop" ⟨[.ref I, .none, .ref S],[]⟩) R {s with heap:=h2,toks:=tk2}:=λits h2 tk2 c2 hb2 hS2 st2 k2=>
   ih (j+1) {s with heap:=h2,toks:=tk2} its c2 (by omega) (by omega) st2 (frame _ _ ok k2) hb2 hS2 λm h3 tk3 hm hv k3=>hR m h3 tk3 hm hv λb o b1 b2 e=>k3 b o b1 b2 (k2 b o b1 b2 e)
  have put:∀(its:Array Value) (tk2:Nat),zlT val lt (j+1) its->codeAny (model prog w) A (.builtin "min.loop" ⟨[.ref I, .none, .ref S],[]⟩) R {s with heap:=h'.update S (Obj.mapSeq λ_=>its),toks:=tk2}:=λits tk2 hb2=>
   go its _ tk2 _ hb2 (Heap.get?_update_self _ hS' rfl) (W.frame _ _ _ hst' λb hbf o e=>(Heap.get?_update_other _ _ (λh:S=b=>hSf (by rw[h];exact hbf))).trans e) λb o b1 b2 e=>(Heap.get?_update_other _ _ (Ne.symm b2)).trans (hk' b o b1 e)
  rcases hb with⟨z,rfl⟩|⟨m,hm,rfl,hbest⟩
  ·subst z
   show wpAny _ A.in1 (updateSeq S (λ_=> #[val 0,val 0])>>=_) _ _ _
   refine wpAny_bind (wpAny_updateSeq hS' rfl ?_)
   rw[nm]
   exact wpAny_pure ⟨plainId_quiet F.plain_min_loop _,put _ _ (.inr ⟨0,by omega,rfl,λi hi ne=>by omega⟩)⟩
  ·show wpAny _ A.in1 (tryCatch (holding [val j,val j] (richCompare .Lt (val j) (val m)>>=_)) _>>=_) _ _ _
   refine wpAny_bind (wpAny_tryCatch (wpAny_holding (wpAny_bind (cmp j m {s with heap:=h',toks:=tk} _ _ (by omega) (by omega) (by omega) okh ?_))))
   refine wpAny_bind (wpAny_holding (wpAny_truthy_bool ?_))
   refine wpAny_bind (wpAny_letGo (wpAny_pure ?_))
   cases hbb:lt j m with
   |true=>
    simp only[if_true]
    refine wpAny_bind (wpAny_updateSeq hS' rfl (wpAny_bind (wpAny_letGo ?_)))
    rw[nm]
    refine wpAny_pure ⟨plainId_quiet F.plain_min_loop _,put _ _ (.inr ⟨j,by omega,rfl,λi hi ne=>?_⟩)⟩
    by_cases e:i=m
    ·rw[e];exact hbb
    ·exact tr _ _ _ hbb (hbest i (by omega) e)
   |false=>
    simp only[Bool.false_eq_true,if_false]
    refine wpAny_bind (wpAny_letGo ?_)
    rw[nm]
    refine wpAny_pure ⟨plainId_quiet F.plain_min_loop _,go _ _ _ c (.inr ⟨m,by omega,rfl,λi hi ne=>?_⟩) hS' hst' λb o b1 _ e=>hk' b o b1 e⟩
    by_cases e:i=j
    ·rw[e];exact tri _ _ (by omega) (by omega) (by omega) hbb
    ·exact hbest i (by omega) ne
end
theorem zlp(a:Value):argsOk "min" ⟨[a],[]⟩:=by unfold argsOk;kernel_rfl
section
variable{prog:Program}{w:World}{A:Around}{E:Value->Shared->Prop}{s:Shared}
theorem call_minL{l:Addr}{its:Array Value}{Q:Value->Shared->Prop}(hA:A.handled=none)(hl:s.heap.IsList l its)(val:Nat->Value)(lt:Nat->Nat->Bool)(hval:∀(i:Nat) (v:Value),its[i]?=some v->v=val i)(hn:0<its.size)
 (cmp:∀i j (s':Shared) (Q E:Value->Shared->Prop),i<its.size->j<its.size->i≠j->(∀b o,s.heap.get? b=some o->s'.heap.get? b=some o)->Q (.bool (lt i j)) s'->wpAny (model prog w) A.in1 (richCompare .Lt (val i) (val j)) Q E s')
 (tri:∀i j,i<its.size->j<its.size->i≠j->lt i j=false->lt j i=true) (tr:∀i j k,lt i j=true->lt j k=true->lt i k=true)
 (h:∀m h' tk,m<its.size->(∀i<its.size,i≠m->lt m i=true)->(∀b o,s.heap.get? b=some o->h'.get? b=some o)->Q (val m) {s with heap:=h',toks:=tk}):
 wpAny (model prog w) A (call (.builtin "min") [.ref l]) Q E s:=by
 have nm:(toString "min"++toString ".loop":String)="min.loop":=by decide
 refine wpAny_call (codeAny_call_builtin F.plain_min F.entry_min ?_)
 have ck:checkBuiltinCall "min" ⟨[.ref l],[]⟩=pure ():=by
  simp only[checkBuiltinCall,F.kind_min]
  have ha:=zlp (.ref l)
  unfold argsOk at ha
  cases hsig:Manifest.signature? "min"with
  |none=>rfl
  |some sig=>rw[hsig] at ha;exact ha
 refine wpAny_of_eq ck ?_
 have bp:Builtin.Builtins.bindParams "min" ["key","default"] 0 ⟨[],[]⟩=pure [none,none]:=by rfl
 show wpAny _ A.in1 (Builtin.Builtins.bindParams "min" ["key","default"] 0 ⟨[],[]⟩>>=_) _ _ s
 refine wpAny_bind (wpAny_of_eq bp ?_)
 refine wpAny_bind (wpAny_pure ?_)
 refine wpAny_bind (wpAny_pyIter_list hl ?_)
 refine wpAny_bind (wpAny_newObj_type ?_)
 rw[nm]
 have hp:l≠s.heap.objs.size:=Nat.ne_of_lt (by obtain⟨o,ho,_⟩:=hl;exact Heap.lt_size ho)
 have sz:(s.heap.push {cls:= .type "list_iterator",data:= .fields #[.ref l, .int 0 0]}).objs.size=s.heap.objs.size+1:=Heap.size_push ..
 have llt:l<s.heap.objs.size:=by obtain⟨o,ho,_⟩:=hl;exact Heap.lt_size ho
 refine wpAny_pure ⟨plainId_quiet F.plain_min_loop _,?_⟩
 have nw:∀{b:Addr} {o:Obj},s.heap.get? b=some o->b∉ [s.heap.objs.size]:=λ{b o} e z=>by
  have:b=s.heap.objs.size:=by simpa using z
  exact absurd (Heap.lt_size e) (by rw[this];exact Nat.lt_irrefl _)
 have nS:∀{b:Addr} {o:Obj},s.heap.get? b=some o->b≠(s.heap.push {cls:= .type "list_iterator",data:= .fields #[.ref l, .int 0 0]}).objs.size:=λ{b o} e z=>by
  rw[sz] at z
  exact absurd (Heap.lt_size e) (by rw[z];exact Nat.not_lt.mpr (Nat.le_succ _))
 refine zlY (Walks.list (A:=A.in1) (show A.in1.handled=none from hA) s.heap.objs.size l hp its) val lt (λh=>∀b o,s.heap.get? b=some o->h.get? b=some o) (λi v e=>hval i v e) _ ?_ (λh h' ok k b o e=>k b o (nw e) (nS e) (ok b o e)) (λi j s' Q E hi hj ne ok q=>cmp i j s' Q E hi hj ne ok q) tri tr hn _ 0 _ #[] 0 rfl (Nat.zero_le _) ?_ ?_ (.inl ⟨rfl,rfl⟩) (Heap.get?_push_size _ rfl) λm h' tk hm hv k=>h m h' tk hm hv λb o e=>k b o (nw e) (nS e) (Heap.get?_push_of_some _ (Heap.get?_push_of_some _ e))
 ·show (s.heap.push _).objs.size∉_
  rw[sz]
  simp only[List.mem_cons,List.not_mem_nil,or_false,not_or]
  exact⟨Nat.ne_of_gt (Nat.lt_succ_self _),Nat.ne_of_gt (Nat.lt_succ_of_lt llt)⟩
 ·refine ⟨⟨_,Heap.get?_push_of_some _ (Heap.get?_push_size _ rfl),rfl,rfl⟩,?_⟩
  obtain⟨o,ho,r⟩:=hl
  exact⟨o,Heap.get?_push_of_some _ (Heap.get?_push_of_some _ ho),r⟩
 ·exact λb o e=>Heap.get?_push_of_some _ (Heap.get?_push_of_some _ e)
end
end HT
namespace L2
open PySem PySem.Spec PyProof.Rows RW
section
variable{X:Cx}{K:PySem.W.Frag}
theorem zey{α:Type}{N:List α}(hN:N.Nodup){i j:Nat}{x:α}(a:N[i]?=some x)(b:N[j]?=some x):i=j:=by
 obtain⟨h1,e1⟩:=List.getElem?_eq_some_iff.mp a
 obtain⟨h2,e2⟩:=List.getElem?_eq_some_iff.mp b
 exact(List.getElem_inj hN).mp (e1.trans e2.symm)
def KmO(H:Hp)(b:Addr)(k:Ky)(v:V):Prop:=∃t,H b=some (.tup [.ref t,v])/\KeyO H t k
structure RawKm(h:Heap)(b:Addr)(k:Ky):Prop where
 at_:∃t u,IsTup h b #[.ref t,u]/\RawK h t k
theorem zlG{prog:Program}{w:World}{A:Around}{E:Value->Shared->Prop}{s:Shared}{a b:Addr}{k1 k2:Ky}{Q:Value->Shared->Prop}(hu:A.units+64<cLine)(x:RawKm s.heap a k1)(y:RawKm s.heap b k2)(ne:k1≠k2)(q:Q (.bool (ltK k1 k2)) s):wpAny (model prog w) A (richCompare .Lt (.ref a) (.ref b)) Q E s:=by
 obtain⟨t,u,ha,x⟩:=x.at_
 obtain⟨t',u',hb,y⟩:=y.at_
 obtain⟨⟨c1,d1,e1,f1⟩,ho,hc,n,hd⟩:=id ha
 obtain⟨⟨c2,d2,e2,f2⟩,ho2,hc2,n2,hd2⟩:=id hb
 simp only at hc hd hc2 hd2
 subst hc hd hc2 hd2
 refine richCompare_meets_room (op:= .Lt) ⟨_,ho,rfl⟩ ⟨_,ho2,rfl⟩ PySem.F.slot_tuple_lt PySem.F.entry_tuple_lt (PySem.F.args_tuple_lt_2 _ _) (zb5 a b n n2 d1 d2 f1 f2 [.ref t,u] [.ref t',u'] 0 (ltK k1 k2)) ⟨ho,ho2,λprog w i x y hi=>absurd hi (Nat.not_lt_zero _),Nat.zero_le _,Nat.zero_le _, .inr ⟨_,_,rfl,rfl,λprog w E Q hq=>?_,λprog w E Q hq=>?_⟩,⟨(λx=>nomatch x),q⟩⟩ (by omega)
 ·refine zne (by show A.units+1+62<cLine;omega) x y ?_
  rw[decide_eq_false ne];exact hq
 ·exact znR (by show A.units+1+63<cLine;omega) x y hq
theorem KmO.raw{pins:List (Addr×Obj)}{σ:L2.St}{H:Hp}{s:Shared}{h':Heap}(I:Inv X pins σ H s){b:Addr}{k:Ky}{v:V}(x:KmO H b k v)(kp:∀b o,s.heap.get? b=some o->h'.get? b=some o):RawKm h' b k:=by
 obtain⟨t,e,o⟩:=x
 obtain⟨its,r1,t1,_⟩:=I.tuple (SqT.of e)
 obtain⟨_,_,rfl,x1,x2⟩:=zgN r1
 cases x1
 exact⟨⟨t,_,zdO t1 kp,o.raw I kp⟩⟩
def zpW:List V->Hp->VK->Prop:=λxs H Q=>∃(l:Addr) (bs:List Addr) (ks:List Ky),xs=[.ref l]/\H l=some (.lst (bs.map V.ref))/\bs.length=ks.length/\(∀(i:Nat) (b:Addr) (k:Ky),bs[i]?=some b->ks[i]?=some k->∃v,KmO H b k v)/\ks.Nodup/\0<ks.length/\
 ∀(m:Nat) (b:Addr) (k:Ky),bs[m]?=some b->ks[m]?=some k->(∀k'∈ks,k'≠k->ltK k k'=true)->Q (.ref b) H
theorem zjf(hc:X.calm=true)(hu:X.A.units+70<cLine):CallR X (.builtin "min") zpW:=by
 intro pins s σ H xs us Q I r h
 obtain⟨l,bs,ks,rfl,hl,hlen,hk,nd,h0,q⟩:=h
 obtain⟨u,rfl,ru⟩:=zc8 r
 cases ru
 obtain⟨its,rv,pl,hz⟩:=I.list (SqL.of hl)
 have ei:=zkJ rv
 subst ei
 have sz:(bs.map Value.ref).toArray.size=ks.length:=by simp[hlen]
 have gb:∀i,i<ks.length->bs[i]?=some (bs.getD i 0):=λi h=>by simp[show i<bs.length by omega]
 have gk:∀i,i<ks.length->ks[i]?=some (ks.getD i (0,0,[])):=λi h=>by simp[h]
 refine HT.call_minL (I.ok.hd hc) pl.isList (λi=> .ref (bs.getD i 0)) (λi j=>ltK (ks.getD i (0,0,[])) (ks.getD j (0,0,[]))) (λi v e=>?_) (by rw[sz];exact h0) (λi j s' Q E hi hj ne kp hq=>?_) (λi j hi hj ne e=>?_) (λi j k a b=>zi2 a b) λm h' tk hm hb kp=>?_
 ·rw[List.getElem?_toArray,List.getElem?_map] at e
  cases e2:bs[i]? with
  |none=>rw[e2] at e;cases e
  |some b=>rw[e2] at e;cases e;simp[List.getD,e2]
 ·rw[sz] at hi hj
  obtain⟨v,o1⟩:=hk i _ _ (gb i hi) (gk i hi)
  obtain⟨v',o2⟩:=hk j _ _ (gb j hj) (gk j hj)
  refine zlG (by show X.A.units+1+64<cLine;omega) (o1.raw I kp) (o2.raw I kp) (λz=>ne ?_) hq
  have h1:=gk i hi
  rw[z] at h1
  exact zey nd h1 (gk j hj)
 ·rw[sz] at hi hj
  refine zhM (λz=>ne ?_) e
  have h1:=gk i hi
  rw[z] at h1
  exact zey nd h1 (gk j hj)
 ·rw[sz] at hm hb
  refine⟨.ref _,_,I.kept (t':=tk) kp,rfl,q m _ _ (gb m hm) (gk m hm) λk' hk' ne=>?_⟩
  obtain⟨i,hi,e⟩:=List.getElem_of_mem hk'
  have:=hb i hi λz=>ne (by rw[←e,←z];simp[hi])
  rw[←e]
  simpa[List.getD,hi] using this
end
end L2
namespace RW
open PySem PySem.Spec PyProof.Rows L2
inductive TrX(K:PySem.W.Frag)(H:Hp):V->PyData->Prop
 |non:TrX K H .non .none
 |int (i:Int):TrX K H (.int i) (.int i)
 |str (x:Str) (h:PyData.strOk x=true):TrX K H (.str x) (.str x)
 |tup {p:Addr} {vs:List V} {ds:List PyData} (e:SqT K H p vs) (hl:vs.length=ds.length) (h:∀(i:Nat) (v:V) (d:PyData),vs[i]?=some v->ds[i]?=some d->TrX K H v d):TrX K H (.ref p) (.tuple ds)
 |lst {p:Addr} {vs:List V} {ds:List PyData} (e:H p=some (.lst vs)) (hl:vs.length=ds.length) (h:∀(i:Nat) (v:V) (d:PyData),vs[i]?=some v->ds[i]?=some d->TrX K H v d):TrX K H (.ref p) (.list ds)
theorem TrX.reads{X:Cx}{pins:List (Addr×Obj)}{σ:L2.St}{H:Hp}{s:Shared}(I:Inv X pins σ H s){x:V}{d:PyData}(t:TrX X.K H x d):∀v,RelV x v->∃as,Reads s.heap v d as:=by
 induction t with
 |non=>intro v r;cases r;exact⟨_, .none⟩
 |int i=>intro v r;obtain⟨t,rfl⟩:=r;exact⟨_, .int i t⟩
 |str x h=>intro v r;obtain⟨t,rfl⟩:=r;exact⟨_, .str x t⟩
 |tup e hl h ih=>
  intro v r
  cases r
  obtain⟨its,rv,⟨o,ho,hc,n,hd⟩,_⟩:=I.tuple e
  obtain⟨bs,hb⟩:=zbd (h:=s.heap) rv hl ih
  exact⟨_, .tuple ho hc hd (by simpa using hb)⟩
 |lst e hl h ih=>
  intro v r
  cases r
  obtain⟨its,n,rv,ho,_⟩:=I.lst e
  obtain⟨bs,hb⟩:=zbd (h:=s.heap) rv hl ih
  exact⟨_, .list ho rfl rfl (by simpa using hb)⟩
theorem TrX.can{K:PySem.W.Frag}{H:Hp}{x:V}{d:PyData}(t:TrX K H x d):d.canLay0=true:=by
 induction t with
 |non=>rfl
 |int i=>rfl
 |str x h=>simp only[PyData.canLay0];exact h
 |tup e hl h ih=>rw[PyData.canLay0];exact zcc hl ih
 |lst e hl h ih=>rw[PyData.canLay0];exact zcc hl ih
theorem zmu{X:Cx}(hu:X.A.units+64<cLine):OpR X (compareOp .NotEq) (λx y H Q=>∃d e,TrX X.K H x d/\TrX X.K H y e/\min d.depth e.depth<=60/\Q (.bl (!d.eqv e)) H):=by
 intro pins s σ H x y v u Q I rx ry h
 obtain⟨d,e,t1,t2,hd,q⟩:=h
 obtain⟨as,r1⟩:=t1.reads I v rx
 obtain⟨bs,r2⟩:=t2.reads I u ry
 exact SeqAt.compareNe_reads r1 r2 t1.can t2.can (by omega) ⟨.bl _,H,I,rfl,q⟩
noncomputable abbrev Hr:=Int×Option WM
noncomputable abbrev Tb:=List (Str×Hr)
noncomputable abbrev Lt:=Str×Hr
noncomputable def zu(m:Tb)(x:Str):Option Hr:=(m.find? λp=>decide (p.1=x)).map (·.2)
noncomputable def zcC(m:Tb)(x:Str)(r:Hr):Tb:=if(m.any λp=>decide (p.1=x))=true then m.map (λp=>if p.1=x then(p.1,r)else p)else m ++ [(x,r)]
theorem zaq{p:Str×Hr}{m:Tb}{x:Str}(e:p.1=x):zu (p::m) x=some p.2:=by simp[zu,List.find?_cons,e]
theorem zaK{p:Str×Hr}{m:Tb}{x:Str}(e:¬p.1=x):zu (p::m) x=zu m x:=by simp[zu,List.find?_cons,e]
theorem zcS(x:Str):∀m:Tb,(m.any λp=>decide (p.1=x))=(zu m x).isSome
 |[]=>rfl
 |p::m=>by
  rw[List.any_cons,zcS x m]
  by_cases e:p.1=x
  ·rw[zaq e,decide_eq_true e];rfl
  ·rw[zaK e,decide_eq_false e];rfl
theorem zgw(x y:Str)(r:Hr):∀m:Tb,zu (m.map λp=>if p.1=x then(p.1,r)else p) y=(zu m y).map λz=>if y=x then r else z
 |[]=>rfl
 |p::m=>by
  rw[List.map_cons]
  by_cases e:p.1=y
  ·by_cases e2:p.1=x
   ·rw[if_pos e2,zaq (p:=(p.1,r)) e,zaq e,Option.map_some,if_pos (by rw[←e];exact e2)]
   ·rw[if_neg e2,zaq e,zaq e,Option.map_some,if_neg (by rw[←e];exact e2)]
  ·rw[zaK e,←zgw x y r m]
   by_cases e2:p.1=x
   ·rw[if_pos e2,zaK (p:=(p.1,r)) e]
   ·rw[if_neg e2,zaK e]
theorem zfv(x y:Str)(r:Hr):∀m:Tb,zu m x=none->zu (m ++ [(x,r)]) y=if y=x then some r else zu m y
 |[],_=>by
  by_cases e:y=x
  ·rw[if_pos e,e];exact zaq rfl
  ·rw[if_neg e];exact zaK (p:=(x,r)) (λz=>e z.symm)
 |p::m,h=>by
  by_cases e2:p.1=x
  ·rw[zaq e2] at h;cases h
  ·rw[zaK e2] at h
   rw[List.cons_append]
   by_cases e:p.1=y
   ·rw[zaq e,zaq e,if_neg (by rw[←e];exact e2)]
   ·rw[zaK e,zaK e];exact zfv x y r m h
theorem zgU(m:Tb)(x y:Str)(r:Hr):zu (zcC m x r) y=if y=x then some r else zu m y:=by
 unfold zcC
 rw[zcS]
 cases h:zu m x with
 |none=>rw[if_neg (by simp)];exact zfv x y r m h
 |some z=>
  rw[if_pos (show(some z).isSome=true from rfl),zgw]
  by_cases e:y=x
  ·rw[e,h,if_pos rfl,Option.map_some,if_pos rfl]
  ·rw[if_neg e];cases zu m y with
   |none=>rfl
   |some w=>rw[Option.map_some,if_neg e]
theorem zgG(m:Tb)(x:Str)(r:Hr):(zu m x=none->zcC m x r=m ++ [(x,r)])/\(zu m x≠none->(zcC m x r).map (·.1)=m.map (·.1)):=by
 unfold zcC
 rw[zcS]
 refine⟨λh=>by rw[h,if_neg (by simp)],λh=>?_⟩
 cases e:zu m x with
 |none=>exact absurd e h
 |some z=>
  rw[if_pos (show(some z).isSome=true from rfl),List.map_map]
  refine List.map_congr_left λp _=>?_
  show(if p.1=x then(p.1,r)else p).1=p.1
  split<;>rfl
theorem zek{m:Tb}{x:Str}{r:Hr}(h:zu m x=some r):(x,r)∈m:=by
 unfold zu at h
 cases e:m.find? λp=>decide (p.1=x)with
 |none=>rw[e] at h;cases h
 |some p=>
  rw[e] at h
  cases h
  have:=List.mem_of_find?_eq_some e
  have h2:p.1=x:=by simpa using List.find?_some e
  rw[←h2];exact this
theorem zed:∀{m:Tb} {x:Str} {r:Hr},(m.map (·.1)).Nodup->(x,r)∈m->zu m x=some r
 |p::m,x,r,nd,h=>by
  rw[List.map_cons,List.nodup_cons] at nd
  rcases List.mem_cons.mp h with h|h
  ·rw[←h];exact zaq rfl
  ·rw[zaK λz=>nd.1 (by rw[z];exact List.mem_map.mpr ⟨_,h,rfl⟩)]
   exact zed nd.2 h
theorem lookT_key{m:Tb}{x:Str}:x∈m.map (·.1)↔zu m x≠none:=by
 constructor
 ·intro h z
  obtain⟨p,hp,rfl⟩:=List.mem_map.mp h
  have:=zcS p.1 m
  rw[z] at this
  have h2:=List.any_eq_false.mp this p hp
  exact h2 (decide_eq_true rfl)
 ·intro h
  cases e:zu m x with
  |none=>exact absurd e h
  |some r=>exact List.mem_map.mpr ⟨_,zek e,rfl⟩
theorem zm8{m:Tb}{x:Str}{r:Hr}(nd:(m.map (·.1)).Nodup):((zcC m x r).map (·.1)).Nodup:=by
 cases e:zu m x with
 |none=>
  rw[(zgG m x r).1 e,List.map_append]
  refine List.nodup_append.mpr ⟨nd,by simp,λa ha b hb z=>?_⟩
  rw[List.map_cons,List.map_nil,List.mem_singleton] at hb
  rw[z,hb] at ha
  exact lookT_key.mp ha e
 |some z=>rw[(zgG m x r).2 (by rw[e];exact λz=>nomatch z)];exact nd
noncomputable def zcF(r:Option Hr):Int:=match r with|none=>0|some r=>r.1
noncomputable def zd0(m:Tb)(l:Lt):Tb:=if l.2.1<=zcF (zu m l.1)then m else zcC m l.1 l.2
noncomputable def za1(nm:Str)(rs:List D)(p:Str×Hr):Option WM:=match p.2.2 with|none=>none|some (w,ms)=>if nm∈w\/zcB (zT (nm::w) ms rs)=true then none else some (nm::w,ms)
noncomputable def zbW(nm:Str)(rs:List D)(m:Tb):List WM:=m.filterMap (za1 nm rs)
def zbt(rs:List D)(es:List WM):Option WM->Prop
 |none=>es=[]
 |some e=>e∈es/\∀e'∈es,kE rs e'≠kE rs e->ltK (kE rs e) (kE rs e')=true
theorem zgp{rs:List D}{es es':List WM}(h:∀e,e∈es↔e∈es')(u:∀e∈es,∀e'∈es,e.1=e'.1->e=e'){b b':Option WM}(h1:zbt rs es b)(h2:zbt rs es' b'):b=b':=by
 cases b with
 |none=>
  cases b' with
  |none=>rfl
  |some e'=>
   have h1:es=[]:=h1
   have:=(h e').mpr h2.1
   rw[h1] at this;cases this
 |some e=>
  cases b' with
  |none=>
   have h2:es'=[]:=h2
   have:=(h e).mp h1.1
   rw[h2] at this;cases this
  |some e'=>
   by_cases c:kE rs e'=kE rs e
   ·have e1:e'.1=e.1:=congrArg (λk:Ky=>k.2.2) c
    rw[u e h1.1 e' ((h _).mpr h2.1) e1.symm]
   ·have l1:=h1.2 e' ((h _).mpr h2.1) c
    have l2:=h2.2 e ((h _).mp h1.1) (Ne.symm c)
    rw[znS l1] at l2;cases l2
theorem zdx{nm:Str}{rs:List D}{m:Tb}(nd:(m.map (·.1)).Nodup){e:WM}:e∈zbW nm rs m↔∃x r,zu m x=some r/\za1 nm rs (x,r)=some e:=by
 unfold zbW
 rw[List.mem_filterMap]
 exact⟨λ⟨⟨x,r⟩,h,o⟩=>⟨x,r,zed nd h,o⟩,λ⟨x,r,h,o⟩=>⟨(x,r),zek h,o⟩⟩
noncomputable def zcr(rs:List D)(b:Option WM)(o:Str):Option WM:=match b with|none=>none|some (w,ms)=>(zQ w (some o) rs ms).map λt=>(w,t)
noncomputable def z5(tm:Tb)(o:Str):Option WM:=match zu tm o with|none=>none|some r=>r.2
noncomputable def zbF(rs:List D)(b:Option WM)(tm:Tb)(o:Str):Tb:=if zcr rs b o=z5 tm o then tm else zcC tm o (zcF (zu tm o)+1,zcr rs b o)
noncomputable def zdP(rs:List D)(b:Option WM)(tm:Tb)(o:Str):List Lt:=if zcr rs b o=z5 tm o then [] else [(o,zcF (zu tm o)+1,zcr rs b o)]
theorem zfS{rs:List D}{b:Option WM}{tm:Tb}{o y:Str}:z5 (zbF rs b tm o) y=if y=o then zcr rs b o else z5 tm y:=by
 unfold zbF
 split
 ·rename_i h
  by_cases e:y=o
  ·rw[if_pos e,e,h]
  ·rw[if_neg e]
 ·show (match zu (zcC tm o _) y with|none=>none|some r=>r.2)=_
  rw[zgU]
  by_cases e:y=o
  ·rw[if_pos e,if_pos e]
  ·rw[if_neg e,if_neg e];rfl
noncomputable def zd7(T:List Lt)(o:Str):Option WM:=match(T.reverse.find? λp=>decide (p.1=o))with|none=>none|some p=>p.2.2
theorem zjs{T:List Lt}{p:Lt}{o:Str}:zd7 (T ++ [p]) o=if p.1=o then p.2.2 else zd7 T o:=by
 unfold zd7
 rw[List.reverse_append,List.reverse_singleton,List.singleton_append,List.find?_cons]
 by_cases e:p.1=o
 ·rw[decide_eq_true e,if_pos e]
 ·rw[decide_eq_false e,if_neg e]
theorem zla{rs:List D}{b:Option WM}{tm:Tb}{T:List Lt}{o:Str}(h:∀y,zd7 T y=z5 tm y)(y:Str):zd7 (T ++zdP rs b tm o) y=z5 (zbF rs b tm o) y:=by
 rw[zfS]
 unfold zdP
 split
 ·rename_i e
  rw[List.append_nil,h]
  by_cases c:y=o
  ·rw[if_pos c,c,e]
  ·rw[if_neg c]
 ·rw[zjs]
  by_cases c:y=o
  ·rw[if_pos c,if_pos c.symm]
  ·rw[if_neg c,if_neg (λz=>c z.symm),h]
noncomputable def zbj(rs:List D)(b:Option WM)(tm:Tb)(os:List Str):Tb:=os.foldl (zbF rs b) tm
noncomputable def zbr(rs:List D)(b:Option WM):Tb->List Str->List Lt
 |_,[]=> []
 |tm,o::os=>zdP rs b tm o ++zbr rs b (zbF rs b tm o) os
theorem zfk{rs:List D}{b:Option WM}{tm:Tb}{os:List Str}{o:Str}:zbj rs b tm (os ++ [o])=zbF rs b (zbj rs b tm os) o:=by unfold zbj;rw[List.foldl_append];rfl
theorem zev{rs:List D}{b:Option WM}{o:Str}:∀{os:List Str} {tm:Tb},zbr rs b tm (os ++ [o])=zbr rs b tm os ++zdP rs b (zbj rs b tm os) o
 |[],tm=>by rw[List.nil_append,zbr,zbr,zbr,List.append_nil,List.nil_append];rfl
 |p::os,tm=>by rw[List.cons_append,zbr,zev (os:=os),zbr,List.append_assoc];rfl
theorem zlx{rs:List D}{b:Option WM}{tm:Tb}{o:Str}:(zdP rs b tm o).length<=1:=by unfold zdP;split<;>simp
theorem zdf{rs:List D}{b:Option WM}:∀{os:List Str} {tm:Tb},(zbr rs b tm os).length<=os.length
 |[],tm=>Nat.le_refl _
 |p::os,tm=>by
  rw[zbr,List.length_append,List.length_cons]
  have h1:=zlx (rs:=rs) (b:=b) (tm:=tm) (o:=p)
  have h2:=zdf (rs:=rs) (b:=b) (os:=os) (tm:=zbF rs b tm p)
  omega
theorem zdJ{rs:List D}{b:Option WM}{y:Str}:∀{os:List Str} {tm:Tb},z5 (zbj rs b tm os) y=if y∈os then zcr rs b y else z5 tm y
 |[],tm=>by rw[if_neg (by simp)];rfl
 |p::os,tm=>by
  show z5 (zbj rs b (zbF rs b tm p) os) y=_
  rw[zdJ (os:=os),zfS]
  by_cases h1:y∈os
  ·rw[if_pos h1,if_pos (List.mem_cons_of_mem _ h1)]
  ·rw[if_neg h1]
   by_cases h2:y=p
   ·rw[if_pos h2,if_pos (by rw[h2];exact List.mem_cons_self),h2]
   ·rw[if_neg h2,if_neg (λz=>(List.mem_cons.mp z).elim h2 h1)]
theorem zew{rs:List D}{b:Option WM}:∀{os:List Str} {tm:Tb} {T:List Lt},(∀y,zd7 T y=z5 tm y)->∀y,zd7 (T ++zbr rs b tm os) y=z5 (zbj rs b tm os) y
 |[],tm,T,h,y=>by rw[zbr,List.append_nil];exact h y
 |p::os,tm,T,h,y=>by
  rw[zbr,←List.append_assoc]
  exact zew (os:=os) (zla h) y
structure TbOk(hs:List Str)(ok:Str->Hr->Prop)(tm:Tb):Prop where
 nd:(tm.map (·.1)).Nodup
 mem:∀p∈tm,p.1∈hs/\ok p.1 p.2
theorem TbOk.nil{hs:List Str}{ok:Str->Hr->Prop}:TbOk hs ok []:=⟨List.nodup_nil,λ_ z=>nomatch z⟩
theorem zlq{m:Tb}{x:Str}{r:Hr}{p:Str×Hr}(h:p∈zcC m x r):p∈m\/p=(x,r):=by
 unfold zcC at h
 split at h
 ·obtain ⟨q,hq,e⟩:=List.mem_map.mp h
  by_cases c:q.1=x
  ·rw[if_pos c] at e;exact .inr (by rw[←e,c])
  ·rw[if_neg c] at e;exact .inl (by rw[←e];exact hq)
 ·rcases List.mem_append.mp h with h|h
  ·exact .inl h
  ·exact .inr (List.mem_singleton.mp h)
theorem TbOk.put{hs:List Str}{ok:Str->Hr->Prop}{tm:Tb}{x:Str}{r:Hr}(h:TbOk hs ok tm)(hx:x∈hs)(ho:ok x r):TbOk hs ok (zcC tm x r):=
 ⟨zm8 h.nd,λp hp=>by
   rcases zlq hp with h1|h1
   ·exact h.mem p h1
   ·rw[h1];exact⟨hx,ho⟩⟩
theorem TbOk.len{hs:List Str}{ok:Str->Hr->Prop}{tm:Tb}(h:TbOk hs ok tm):tm.length<=hs.length:=by
 have:=zcK h.nd (m:=hs) λx hx=>by
  obtain⟨p,hp,e⟩:=List.mem_map.mp hx
  rw[←e];exact(h.mem p hp).1
 rwa[List.length_map] at this
theorem TbOk.look{hs:List Str}{ok:Str->Hr->Prop}{tm:Tb}{x:Str}{r:Hr}(h:TbOk hs ok tm)(e:zu tm x=some r):ok x r:=(h.mem _ (zek e)).2
end RW
namespace L2
open PySem PySem.Spec PyProof.Rows
theorem zo8{X:Cx}{o i value:Expr}{td ty tv:TE}{op:Operator}{tpos pos:Pos}{rd:V->V->Hp->VK->Prop}(hu:X.A.units+1<cLine)(ho:QE X o td)(hi:QE X i ty)(hv:QE X value tv)(hop:zmo X op rd)
 (ha:∀ov iv new,augStore i ov iv new=(do holding [new,ov,iv] (setItem ov iv new);release [new,ov,iv] [];pure .next):=by intros;rfl):QS X (.AugAssign (.Subscript o i tpos) op value pos) (zoY td ty tv rd):=⟨znd hu ho.o hi.o hv.o hop ha⟩
end L2
namespace K39
open PySem PySem.Spec PyProof.Rows L2
noncomputable def top(i:Nat):Stmt:=PySem.Challenge.pw_restways_k39_houses_hear.main.body.getD i (.Pass ⟨0,0,0,0⟩)
noncomputable abbrev zdz:Stmt:=top 2
noncomputable abbrev zon:List Str:=["cond","way","marks","to","word","about"]
noncomputable abbrev zb7:List Str:=["cond","way","marks","to"]
theorem c_holds:FnScope zon zb7 (zd zdz):=⟨rfl,rfl,rfl,by decide +kernel,rfl,by decide +kernel,by decide +kernel⟩
noncomputable abbrev zbG:Stmt:=top 3
noncomputable abbrev zjN:List Str:=["conds","way","marks","to","cond"]
noncomputable abbrev zba:List Str:=["conds","way","marks","to"]
theorem c_all_hold:FnScope zjN zba (zd zbG):=⟨rfl,rfl,rfl,by decide +kernel,rfl,by decide +kernel,by decide +kernel⟩
noncomputable abbrev za0:Stmt:=top 5
noncomputable abbrev zhp:List Str:=["town","house"]
noncomputable abbrev zbu:List Str:=["town","house"]
theorem zhB:FnScope zhp zbu (zd za0):=⟨rfl,rfl,rfl,by decide +kernel,rfl,by decide +kernel,by decide +kernel⟩
noncomputable abbrev zbJ:Stmt:=top 6
noncomputable abbrev zjI:List Str:=["town","house"]
noncomputable abbrev zck:List Str:=["town","house"]
theorem zjE:FnScope zjI zck (zd zbJ):=⟨rfl,rfl,rfl,by decide +kernel,rfl,by decide +kernel,by decide +kernel⟩
noncomputable abbrev zdm:Stmt:=top 7
noncomputable abbrev zjp:List Str:=["town","house","ties"]
noncomputable abbrev zco:List Str:=["town","house"]
theorem c_tied:FnScope zjp zco (zd zdm):=⟨rfl,rfl,rfl,by decide +kernel,rfl,by decide +kernel,by decide +kernel⟩
noncomputable def zlU:Scope:={kind:= .function,names:=[(".0", .local),("a", .local),("b", .local),("house", .free)],isGenerator:=false,isCoroutine:=false,more:=[]}
theorem o_tied_1:CompOk zjp (zd zdm) ["a","b","house"] [none,none,some 1] zlU:=⟨rfl,by decide +kernel,by decide +kernel,by decide +kernel,by decide +kernel,rfl,by decide +kernel⟩
noncomputable def zmJ:Scope:={kind:= .function,names:=[(".0", .local),("a", .local),("b", .local),("house", .free)],isGenerator:=false,isCoroutine:=false,more:=[]}
theorem o_tied_2:CompOk zjp (zd zdm) ["a","b","house"] [none,none,some 1] zmJ:=⟨rfl,by decide +kernel,by decide +kernel,by decide +kernel,by decide +kernel,rfl,by decide +kernel⟩
noncomputable abbrev z8:Stmt:=top 9
noncomputable abbrev zdn:List Str:=["marks","act","word","mark","others"]
noncomputable abbrev zaT:List Str:=["marks","act"]
theorem c_marks_behind:FnScope zdn zaT (zd z8):=⟨rfl,rfl,rfl,by decide +kernel,rfl,by decide +kernel,by decide +kernel⟩
noncomputable def zer:Scope:={kind:= .function,names:=[(".0", .local),("one", .local),("mark", .free)],isGenerator:=false,isCoroutine:=false,more:=[]}
theorem o_marks_behind_1:CompOk zdn (zd z8) ["one","mark"] [none,some 3] zer:=⟨rfl,by decide +kernel,by decide +kernel,by decide +kernel,by decide +kernel,rfl,by decide +kernel⟩
noncomputable abbrev zcI:Stmt:=top 10
noncomputable abbrev zl6:List Str:=["town","way","marks","to","told","conds","act"]
noncomputable abbrev zcO:List Str:=["town","way","marks","to"]
theorem c_handed:FnScope zl6 zcO (zd zcI):=⟨rfl,rfl,rfl,by decide +kernel,rfl,by decide +kernel,by decide +kernel⟩
noncomputable abbrev zdB:Stmt:=top 12
noncomputable abbrev znN:List Str:=["town","way","marks","conds","told"]
noncomputable abbrev zc4:List Str:=["town","way","marks"]
theorem c_worth:FnScope znN zc4 (zd zdB):=⟨rfl,rfl,rfl,by decide +kernel,rfl,by decide +kernel,by decide +kernel⟩
noncomputable abbrev zaY:Stmt:=top 13
noncomputable abbrev zg7:List Str:=["town","way","marks"]
noncomputable abbrev zbw:List Str:=["town","way","marks"]
theorem zhE:FnScope zg7 zbw (zd zaY):=⟨rfl,rfl,rfl,by decide +kernel,rfl,by decide +kernel,by decide +kernel⟩
noncomputable abbrev zas:Stmt:=top 14
noncomputable abbrev zee:List Str:=["town","marked","keys","key","marks"]
noncomputable abbrev zbv:List Str:=["town","marked"]
theorem c_most_liked:FnScope zee zbv (zd zas):=⟨rfl,rfl,rfl,by decide +kernel,rfl,by decide +kernel,by decide +kernel⟩
noncomputable def zfD:Scope:={kind:= .function,names:=[(".0", .local),("way", .local),("marks", .local),("liking_key", .globalImplicit),("town", .free)],isGenerator:=false,isCoroutine:=false,more:=[]}
theorem o_most_liked_1:CompOk zee (zd zas) ["way","marks","town"] [none,none,some 0] zfD:=⟨rfl,by decide +kernel,by decide +kernel,by decide +kernel,by decide +kernel,rfl,by decide +kernel⟩
noncomputable abbrev z7:Stmt:=zbB (top 17) 0
noncomputable abbrev zez:List Str:=["self","town","name"]
noncomputable abbrev zap:List Str:=["self","town","name"]
theorem zem:FnScope zez zap (zd z7):=⟨rfl,rfl,rfl,by decide +kernel,rfl,by decide +kernel,by decide +kernel⟩
noncomputable abbrev zbg:Stmt:=zbB (top 17) 1
noncomputable abbrev zil:List Str:=["self"]
noncomputable abbrev zbT:List Str:=["self"]
theorem zh3:FnScope zil zbT (zd zbg):=⟨rfl,rfl,rfl,by decide +kernel,rfl,by decide +kernel,by decide +kernel⟩
noncomputable abbrev zaL:Stmt:=zbB (top 17) 2
noncomputable abbrev zf2:List Str:=["self"]
noncomputable abbrev za3:List Str:=["self"]
theorem zgj:FnScope zf2 za3 (zd zaL):=⟨rfl,rfl,rfl,by decide +kernel,rfl,by decide +kernel,by decide +kernel⟩
noncomputable abbrev zaI:Stmt:=zbB (top 17) 3
noncomputable abbrev zf3:List Str:=["self","other"]
noncomputable abbrev zaH:List Str:=["self","other"]
theorem zgh:FnScope zf3 zaH (zd zaI):=⟨rfl,rfl,rfl,by decide +kernel,rfl,by decide +kernel,by decide +kernel⟩
noncomputable abbrev zaD:Stmt:=zbB (top 17) 4
noncomputable abbrev zf6:List Str:=["self"]
noncomputable abbrev za4:List Str:=["self"]
theorem zf9:FnScope zf6 za4 (zd zaD):=⟨rfl,rfl,rfl,by decide +kernel,rfl,by decide +kernel,by decide +kernel⟩
noncomputable abbrev zaW:Stmt:=zbB (top 17) 5
noncomputable abbrev zg9:List Str:=["self","letter","one","to","nr","way","marks"]
noncomputable abbrev zbs:List Str:=["self","letter"]
theorem c_House_hear:FnScope zg9 zbs (zd zaW):=⟨rfl,rfl,rfl,by decide +kernel,rfl,by decide +kernel,by decide +kernel⟩
noncomputable abbrev zao:Stmt:=zbB (top 17) 6
noncomputable abbrev zfm:List Str:=["self"]
noncomputable abbrev zaQ:List Str:=["self"]
theorem zfU:FnScope zfm zaQ (zd zao):=⟨rfl,rfl,rfl,by decide +kernel,rfl,by decide +kernel,by decide +kernel⟩
noncomputable abbrev zX:Stmt:=zbB (top 17) 7
noncomputable abbrev zd4:List Str:=["self","found","nr","way","marks"]
noncomputable abbrev zai:List Str:=["self"]
theorem c_House_open_ways:FnScope zd4 zai (zd zX):=⟨rfl,rfl,rfl,by decide +kernel,rfl,by decide +kernel,by decide +kernel⟩
noncomputable abbrev zaE:Stmt:=zbB (top 17) 8
noncomputable abbrev zf5:List Str:=["self","going"]
noncomputable abbrev zaF:List Str:=["self","going"]
theorem zf1:FnScope zf5 zaF (zd zaE):=⟨rfl,rfl,rfl,by decide +kernel,rfl,by decide +kernel,by decide +kernel⟩
noncomputable abbrev zaB:Stmt:=zbB (top 17) 9
noncomputable abbrev zgb:List Str:=["self","other","way","marks","told"]
noncomputable abbrev za5:List Str:=["self","other"]
theorem c_House_offer:FnScope zgb za5 (zd zaB):=⟨rfl,rfl,rfl,by decide +kernel,rfl,by decide +kernel,by decide +kernel⟩
noncomputable abbrev zae:Stmt:=zbB (top 17) 10
noncomputable abbrev zeU:List Str:=["self","found","other","nr","way","marks","offer"]
noncomputable abbrev zad:List Str:=["self"]
theorem c_House_letters:FnScope zeU zad (zd zae):=⟨rfl,rfl,rfl,by decide +kernel,rfl,by decide +kernel,by decide +kernel⟩
noncomputable abbrev zbi:Stmt:=top 19
noncomputable abbrev ziT:List Str:=["_law_script","_law_k","_law_cell"]
noncomputable abbrev zbZ:List Str:=["_law_script","_law_k"]
theorem c__law_hand:FnScope ziT zbZ (zd zbi):=⟨rfl,rfl,rfl,by decide +kernel,rfl,by decide +kernel,by decide +kernel⟩
noncomputable abbrev zbI:Stmt:=top 20
noncomputable abbrev zjn:List Str:=["_law_script","_law_hand_here","_law_digits","_law_far","_law_k","_law_other"]
noncomputable abbrev zci:List Str:=["_law_script"]
theorem c__law_all:FnScope zjn zci (zd zbI):=⟨rfl,rfl,rfl,by decide +kernel,rfl,by decide +kernel,by decide +kernel⟩
noncomputable abbrev zbe:Stmt:=top 21
noncomputable abbrev ziz:List Str:=["_law_hand_here","_law_many","_law_digit","_law_turn","_law_mixed","_law_other"]
noncomputable abbrev zN:List Str:=["_law_hand_here","_law_many"]
theorem c__law_take:FnScope ziz zN (zd zbe):=⟨rfl,rfl,rfl,by decide +kernel,rfl,by decide +kernel,by decide +kernel⟩
noncomputable abbrev zbl:Stmt:=top 22
noncomputable abbrev zh7:List Str:=["_law_hand_here","_law_some"]
noncomputable abbrev zJ:List Str:=["_law_hand_here","_law_some"]
theorem zhV:FnScope zh7 zJ (zd zbl):=⟨rfl,rfl,rfl,by decide +kernel,rfl,by decide +kernel,by decide +kernel⟩
noncomputable abbrev zaw:Stmt:=top 23
noncomputable abbrev zd1:List Str:=["_law_hand_here","_law_many","_law_letters","_law_first","_law_step","_law_names_here","_law_kept","_law_spot","_law_k"]
noncomputable abbrev zbC:List Str:=["_law_hand_here","_law_many"]
theorem c__law_names:FnScope zd1 zbC (zd zaw):=⟨rfl,rfl,rfl,by decide +kernel,rfl,by decide +kernel,by decide +kernel⟩
noncomputable def zfN:Scope:={kind:= .function,names:=[(".0", .local),("_law_k", .local),("_law_first", .free),("_law_letters", .free),("_law_step", .free)],isGenerator:=false,isCoroutine:=false,more:=[]}
theorem o__law_names_1:CompOk zd1 (zd zaw) ["_law_k","_law_first","_law_letters","_law_step"] [none,some 3,some 2,some 4] zfN:=⟨rfl,by decide +kernel,by decide +kernel,by decide +kernel,by decide +kernel,rfl,by decide +kernel⟩
noncomputable abbrev zbo:Stmt:=top 24
noncomputable abbrev ziw:List Str:=["_law_hand_here","_law_houses","_law_marks","_law_to","_law_way_here","_law_cond_here"]
noncomputable abbrev zb0:List Str:=["_law_hand_here","_law_houses","_law_marks","_law_to"]
theorem c__law_cond:FnScope ziw zb0 (zd zbo):=⟨rfl,rfl,rfl,by decide +kernel,rfl,by decide +kernel,by decide +kernel⟩
noncomputable abbrev zax:Stmt:=top 25
noncomputable abbrev zdV:List Str:=["_law_hand_here","_law_houses","_law_marks","_law_to","_law_many"]
noncomputable abbrev zaX:List Str:=["_law_hand_here","_law_houses","_law_marks","_law_to"]
theorem c__law_conds:FnScope zdV zaX (zd zax):=⟨rfl,rfl,rfl,by decide +kernel,rfl,by decide +kernel,by decide +kernel⟩
noncomputable def zfB:Scope:={kind:= .function,names:=[(".0", .local),("_law_k", .local),("_law_cond", .globalImplicit),("_law_hand_here", .free),("_law_houses", .free),("_law_marks", .free),("_law_to", .free)],isGenerator:=false,isCoroutine:=false,more:=[]}
theorem o__law_conds_1:CompOk zdV (zd zax) ["_law_k","_law_hand_here","_law_houses","_law_marks","_law_to"] [none,some 0,some 1,some 2,some 3] zfB:=⟨rfl,by decide +kernel,by decide +kernel,by decide +kernel,by decide +kernel,rfl,by decide +kernel⟩
noncomputable abbrev zan:Stmt:=top 26
noncomputable abbrev zfr:List Str:=["_law_hand_here","_law_houses","_law_marks","_law_some","_law_k","_law_number"]
noncomputable abbrev zaS:List Str:=["_law_hand_here","_law_houses","_law_marks"]
theorem c__law_likings:FnScope zfr zaS (zd zan):=⟨rfl,rfl,rfl,by decide +kernel,rfl,by decide +kernel,by decide +kernel⟩
noncomputable abbrev zaV:Stmt:=top 27
noncomputable abbrev zhy:List Str:=["_law_hand_here","_law_houses","_law_marks","_law_some","_law_k","_law_act"]
noncomputable abbrev zby:List Str:=["_law_hand_here","_law_houses","_law_marks"]
theorem c__law_hands:FnScope zhy zby (zd zaV):=⟨rfl,rfl,rfl,by decide +kernel,rfl,by decide +kernel,by decide +kernel⟩
noncomputable abbrev zbn:Stmt:=top 28
noncomputable abbrev zim:List Str:=["_law_hand_here","_law_houses","_law_more","_law_ties_here","_law_k","_law_a","_law_b"]
noncomputable abbrev zbR:List Str:=["_law_hand_here","_law_houses","_law_more"]
theorem c__law_ties:FnScope zim zbR (zd zbn):=⟨rfl,rfl,rfl,by decide +kernel,rfl,by decide +kernel,by decide +kernel⟩
noncomputable abbrev zar:Stmt:=top 29
noncomputable abbrev zdd:List Str:=["_law_hand_here","_law_many","_law_names_here","_law_houses","_law_marks","_law_ties_here","_law_goal","_law_rising","_law_likings_here","_law_hands_here"]
noncomputable abbrev zbS:List Str:=["_law_hand_here"]
theorem c__law_town:FnScope zdd zbS (zd zar):=⟨rfl,rfl,rfl,by decide +kernel,rfl,by decide +kernel,by decide +kernel⟩
noncomputable def zgf:Scope:={kind:= .function,names:=[(".0", .local),("_law_house", .local),("_law_likings", .globalImplicit),("_law_hand_here", .free),("_law_marks", .free),("_law_names_here", .free)],isGenerator:=false,isCoroutine:=false,more:=[]}
theorem o__law_town_1:CompOk zdd (zd zar) ["_law_house","_law_hand_here","_law_marks","_law_names_here"] [none,some 0,some 4,some 2] zgf:=⟨rfl,by decide +kernel,by decide +kernel,by decide +kernel,by decide +kernel,rfl,by decide +kernel⟩
noncomputable def zgn:Scope:={kind:= .function,names:=[(".0", .local),("_law_house", .local),("_law_hands", .globalImplicit),("_law_hand_here", .free),("_law_marks", .free),("_law_names_here", .free)],isGenerator:=false,isCoroutine:=false,more:=[]}
theorem o__law_town_2:CompOk zdd (zd zar) ["_law_house","_law_hand_here","_law_marks","_law_names_here"] [none,some 0,some 4,some 2] zgn:=⟨rfl,by decide +kernel,by decide +kernel,by decide +kernel,by decide +kernel,rfl,by decide +kernel⟩
noncomputable abbrev zbk:Stmt:=top 30
noncomputable abbrev ziu:List Str:=["_law_name"]
noncomputable abbrev zbX:List Str:=["_law_name"]
theorem ziM:FnScope ziu zbX (zd zbk):=⟨rfl,rfl,rfl,by decide +kernel,rfl,by decide +kernel,by decide +kernel⟩
noncomputable abbrev zaJ:Stmt:=top 31
noncomputable abbrev zgo:List Str:=["_law_town_here","_law_home_here","_law_before","_law_best","_law_other","_law_nr","_law_way_here","_law_marks","_law_number"]
noncomputable abbrev za2:List Str:=["_law_town_here","_law_home_here"]
theorem c__law_choose:FnScope zgo za2 (zd zaJ):=⟨rfl,rfl,rfl,by decide +kernel,rfl,by decide +kernel,by decide +kernel⟩
noncomputable abbrev zbH:Stmt:=top 32
noncomputable abbrev zjw:List Str:=["_law_own"]
noncomputable abbrev zbL:List Str:=["_law_own"]
theorem zjz:FnScope zjw zbL (zd zbH):=⟨rfl,rfl,rfl,by decide +kernel,rfl,by decide +kernel,by decide +kernel⟩
noncomputable abbrev zbf:Stmt:=top 33
noncomputable abbrev zif:List Str:=["_law_town_here","_law_home_here","_law_letters","_law_other","_law_nr","_law_way_here","_law_marks","_law_offer","_law_found"]
noncomputable abbrev zbp:List Str:=["_law_town_here","_law_home_here"]
theorem c__law_tell:FnScope zif zbp (zd zbf):=⟨rfl,rfl,rfl,by decide +kernel,rfl,by decide +kernel,by decide +kernel⟩
noncomputable abbrev zbh:Stmt:=top 34
noncomputable abbrev zh6:List Str:=["_law_town_here","_law_home_here","_law_letter_here"]
noncomputable abbrev zbP:List Str:=["_law_town_here","_law_home_here","_law_letter_here"]
theorem zik:FnScope zh6 zbP (zd zbh):=⟨rfl,rfl,rfl,by decide +kernel,rfl,by decide +kernel,by decide +kernel⟩
noncomputable abbrev zZ:Stmt:=top 35
noncomputable abbrev zc7:List Str:=["_law_hand_here","_law_town_here","_law_house","_law_way_here","_law_some"]
noncomputable abbrev zaz:List Str:=["_law_hand_here","_law_town_here","_law_house"]
theorem c__law_real_way:FnScope zc7 zaz (zd zZ):=⟨rfl,rfl,rfl,by decide +kernel,rfl,by decide +kernel,by decide +kernel⟩
noncomputable def zdZ:Scope:={kind:= .function,names:=[(".0", .local),("_law_other", .local),("_law_way_here", .free)],isGenerator:=false,isCoroutine:=false,more:=[]}
theorem o__law_real_way_1:CompOk zc7 (zd zZ) ["_law_other","_law_way_here"] [none,some 3] zdZ:=⟨rfl,by decide +kernel,by decide +kernel,by decide +kernel,by decide +kernel,rfl,by decide +kernel⟩
noncomputable abbrev zR:Stmt:=top 36
noncomputable abbrev zcy:List Str:=["_law_hand_here","_law_town_here","_law_some","_law_rules","_law_found","_law_k"]
noncomputable abbrev zag:List Str:=["_law_hand_here","_law_town_here"]
theorem c__law_some_marks:FnScope zcy zag (zd zR):=⟨rfl,rfl,rfl,by decide +kernel,rfl,by decide +kernel,by decide +kernel⟩
noncomputable def zdC:Scope:={kind:= .function,names:=[(".0", .local),("_law_rule", .local)],isGenerator:=false,isCoroutine:=false,more:=[]}
theorem o__law_some_marks_1:CompOk zcy (zd zR) ["_law_rule"] [none] zdC:=⟨rfl,by decide +kernel,by decide +kernel,by decide +kernel,by decide +kernel,rfl,by decide +kernel⟩
noncomputable abbrev zaC:Stmt:=top 37
noncomputable abbrev zgc:List Str:=["_law_hand_here","_law_town_here","_law_name","_law_numbers","_law_one","_law_last","_law_nr","_law_way_here"]
noncomputable abbrev za6:List Str:=["_law_hand_here","_law_town_here","_law_name","_law_numbers"]
theorem c__law_letter:FnScope zgc za6 (zd zaC):=⟨rfl,rfl,rfl,by decide +kernel,rfl,by decide +kernel,by decide +kernel⟩
noncomputable abbrev zat:Stmt:=top 38
noncomputable abbrev zdU:List Str:=["_law_town_here","_law_house","_law_home_here","_law_own"]
noncomputable abbrev zbA:List Str:=["_law_town_here","_law_house","_law_home_here"]
theorem c__law_is_so:FnScope zdU zbA (zd zat):=⟨rfl,rfl,rfl,by decide +kernel,rfl,by decide +kernel,by decide +kernel⟩
noncomputable def zfM:Scope:={kind:= .function,names:=[(".0", .local),("_law_one", .local),("_law_home_here", .free),("_law_house", .free)],isGenerator:=false,isCoroutine:=false,more:=[]}
theorem o__law_is_so_1:CompOk zdU (zd zat) ["_law_one","_law_home_here","_law_house"] [none,some 2,some 1] zfM:=⟨rfl,by decide +kernel,by decide +kernel,by decide +kernel,by decide +kernel,rfl,by decide +kernel⟩
noncomputable abbrev zdE:Stmt:=top 39
noncomputable abbrev zqq:List Str:=["_law_script","_law_hand_here","_law_town_here","_law_name","_law_house","_law_home_here","_law_numbers","_law_k","_law_letter_here","_law_told"]
noncomputable abbrev zjR:List Str:=["_law_script"]
theorem c_law:FnScope zqq zjR (zd zdE):=⟨rfl,rfl,rfl,by decide +kernel,rfl,by decide +kernel,by decide +kernel⟩
set_option genInjectivity false in
set_option genSizeOfSpec false in
set_option genSizeOf false in
structure Ev(K:PySem.W.Frag)(mg:Str->Option Value) where
 c_House:Addr
 k_House:Cls K c_House
 m_House:mg "House"=some (.ref c_House)
 n_House_place:NoAttr K c_House "place"
 n_House_name:NoAttr K c_House "name"
 n_House_hearings:NoAttr K c_House "hearings"
 n_House_tellings:NoAttr K c_House "tellings"
 n_House_going:NoAttr K c_House "going"
 n_House_times:NoAttr K c_House "times"
 a_holds:Addr
 d_holds:FuncData
 holds:RW.AtD K mg "holds" zdz zb7 a_holds d_holds
 a_all_hold:Addr
 d_all_hold:FuncData
 all_hold:RW.AtD K mg "all_hold" zbG zba a_all_hold d_all_hold
 a_likings_of:Addr
 d_likings_of:FuncData
 likings_of:RW.At K mg "likings_of" za0 zbu a_likings_of d_likings_of
 a_hands_of:Addr
 d_hands_of:FuncData
 hands_of:RW.At K mg "hands_of" zbJ zck a_hands_of d_hands_of
 a_tied:Addr
 d_tied:FuncData
 tied:RW.At K mg "tied" zdm zco a_tied d_tied
 a_marks_behind:Addr
 d_marks_behind:FuncData
 marks_behind:RW.At K mg "marks_behind" z8 zaT a_marks_behind d_marks_behind
 a_handed:Addr
 d_handed:FuncData
 handed:RW.At K mg "handed" zcI zcO a_handed d_handed
 a_worth:Addr
 d_worth:FuncData
 worth:RW.At K mg "worth" zdB zc4 a_worth d_worth
 a_liking_key:Addr
 d_liking_key:FuncData
 liking_key:RW.At K mg "liking_key" zaY zbw a_liking_key d_liking_key
 a_most_liked:Addr
 d_most_liked:FuncData
 most_liked:RW.At K mg "most_liked" zas zbv a_most_liked d_most_liked
 a_House___init__:Addr
 d_House___init__:FuncData
 House___init__:RW.MAt K c_House "__init__" "House.__init__" z7 zap a_House___init__ d_House___init__
 a_House_way:Addr
 d_House_way:FuncData
 House_way:RW.MAt K c_House "way" "House.way" zbg zbT a_House_way d_House_way
 a_House_marks:Addr
 d_House_marks:FuncData
 House_marks:RW.MAt K c_House "marks" "House.marks" zaL za3 a_House_marks d_House_marks
 a_House_heard:Addr
 d_House_heard:FuncData
 House_heard:RW.MAt K c_House "heard" "House.heard" zaI zaH a_House_heard d_House_heard
 a_House_begin:Addr
 d_House_begin:FuncData
 House_begin:RW.MAt K c_House "begin" "House.begin" zaD za4 a_House_begin d_House_begin
 a_House_hear:Addr
 d_House_hear:FuncData
 House_hear:RW.MAt K c_House "hear" "House.hear" zaW zbs a_House_hear d_House_hear
 a_House_choose:Addr
 d_House_choose:FuncData
 House_choose:RW.MAt K c_House "choose" "House.choose" zao zaQ a_House_choose d_House_choose
 a_House_open_ways:Addr
 d_House_open_ways:FuncData
 House_open_ways:RW.MAt K c_House "open_ways" "House.open_ways" zX zai a_House_open_ways d_House_open_ways
 a_House_go_by:Addr
 d_House_go_by:FuncData
 House_go_by:RW.MAt K c_House "go_by" "House.go_by" zaE zaF a_House_go_by d_House_go_by
 a_House_offer:Addr
 d_House_offer:FuncData
 House_offer:RW.MAt K c_House "offer" "House.offer" zaB za5 a_House_offer d_House_offer
 a_House_letters:Addr
 d_House_letters:FuncData
 House_letters:RW.MAt K c_House "letters" "House.letters" zae zad a_House_letters d_House_letters
 a__law_hand:Addr
 d__law_hand:FuncData
 _law_hand:RW.At K mg "_law_hand" zbi zbZ a__law_hand d__law_hand
 a__law_all:Addr
 d__law_all:FuncData
 _law_all:RW.At K mg "_law_all" zbI zci a__law_all d__law_all
 a__law_take:Addr
 d__law_take:FuncData
 _law_take:RW.At K mg "_law_take" zbe zN a__law_take d__law_take
 a__law_pick:Addr
 d__law_pick:FuncData
 _law_pick:RW.At K mg "_law_pick" zbl zJ a__law_pick d__law_pick
 a__law_names:Addr
 d__law_names:FuncData
 _law_names:RW.At K mg "_law_names" zaw zbC a__law_names d__law_names
 a__law_cond:Addr
 d__law_cond:FuncData
 _law_cond:RW.At K mg "_law_cond" zbo zb0 a__law_cond d__law_cond
 a__law_conds:Addr
 d__law_conds:FuncData
 _law_conds:RW.At K mg "_law_conds" zax zaX a__law_conds d__law_conds
 a__law_likings:Addr
 d__law_likings:FuncData
 _law_likings:RW.At K mg "_law_likings" zan zaS a__law_likings d__law_likings
 a__law_hands:Addr
 d__law_hands:FuncData
 _law_hands:RW.At K mg "_law_hands" zaV zby a__law_hands d__law_hands
 a__law_ties:Addr
 d__law_ties:FuncData
 _law_ties:RW.At K mg "_law_ties" zbn zbR a__law_ties d__law_ties
 a__law_town:Addr
 d__law_town:FuncData
 _law_town:RW.At K mg "_law_town" zar zbS a__law_town d__law_town
 a__law_home:Addr
 d__law_home:FuncData
 _law_home:RW.At K mg "_law_home" zbk zbX a__law_home d__law_home
 a__law_choose:Addr
 d__law_choose:FuncData
 _law_choose:RW.At K mg "_law_choose" zaJ za2 a__law_choose d__law_choose
 a__law_way:Addr
 d__law_way:FuncData
 _law_way:RW.At K mg "_law_way" zbH zbL a__law_way d__law_way
 a__law_tell:Addr
 d__law_tell:FuncData
 _law_tell:RW.At K mg "_law_tell" zbf zbp a__law_tell d__law_tell
 a__law_hear:Addr
 d__law_hear:FuncData
 _law_hear:RW.At K mg "_law_hear" zbh zbP a__law_hear d__law_hear
 a__law_real_way:Addr
 d__law_real_way:FuncData
 _law_real_way:RW.At K mg "_law_real_way" zZ zaz a__law_real_way d__law_real_way
 a__law_some_marks:Addr
 d__law_some_marks:FuncData
 _law_some_marks:RW.At K mg "_law_some_marks" zR zag a__law_some_marks d__law_some_marks
 a__law_letter:Addr
 d__law_letter:FuncData
 _law_letter:RW.At K mg "_law_letter" zaC za6 a__law_letter d__law_letter
 a__law_is_so:Addr
 d__law_is_so:FuncData
 _law_is_so:RW.At K mg "_law_is_so" zat zbA a__law_is_so d__law_is_so
 a_law:Addr
 d_law:FuncData
 law:RW.At K mg "law" zdE zjR a_law d_law
 mk_House:Mk K c_House a_House___init__
 a_NOTHING:Addr
 e_NOTHING:Addr
 m_NOTHING:mg "NOTHING"=some (.ref a_NOTHING)
 t_NOTHING:∀H,SqT K H a_NOTHING [.int 0, .non, .ref e_NOTHING]
 u_NOTHING:∀H,SqT K H e_NOTHING []
 isinstance:mg "isinstance"=none
 len:mg "len"=none
 int:mg "int"=none
 tuple:mg "tuple"=none
 range:mg "range"=none
 max:mg "max"=none
 min:mg "min"=none
 sorted:mg "sorted"=none
 all:mg "all"=none
 list:mg "list"=none
 str:mg "str"=none
end K39
namespace K39
open PySem PySem.Spec PyProof.Rows L2 RW
local macro_rules | `(tactic|walk_at "cond")=> `(tactic|first|assumption|decide|omega|exact few rfl|exact .inl ⟨by decide,by decide⟩|exact .inr ⟨by decide,by decide⟩|exact .inl ⟨by omega,by omega⟩|exact .inr ⟨by omega,by omega⟩|exact⟨by omega,by omega⟩|exact⟨by assumption,by assumption⟩|exact⟨by decide,by decide,by decide⟩|exact .inr ⟨by split<;>decide,by split<;>decide⟩)
local macro_rules | `(tactic|walk_at "rd")=> `(tactic|first|with_reducible_and_instances refine⟨_,rfl,?_⟩|refine⟨_,rfl,?_⟩|refine⟨_,_,rfl,rfl,?_⟩|refine⟨_,_,_,_,rfl,rfl,SqL.of (by assumption),rfl,?_⟩|refine⟨_,_,_,_,rfl,rfl,(by assumption),rfl,?_⟩|refine .inl ⟨_,rfl,?_⟩|refine .inr ⟨_,rfl,?_⟩|refine .inl ⟨_,_,rfl, .inl (by assumption),?_⟩|refine⟨(by walk_at "cond"),?_⟩)
local macro_rules | `(tactic|walk_at "dsp")=> `(tactic|repeat' (first|exact dsp_str (by decide)|exact zno|exact dsp_bl|exact znf|exact zog|exact zm3|exact dsp_dnew|exact dsp_disp rfl|exact znW rfl (by assumption)|refine zkE ?_ ?_|refine dsp_tup ?_ ?_|refine dsp_lst' ?_|refine n_cons ?_ ?_|exact n_nil|exact v_c|exact v_var rfl|refine v_tup ?_|refine zmF ?_ ?_|refine dspl_cat ?_ ?_ ?_|exact dspl_var rfl (by assumption) (by assumption)|exact Nat.le_of_ble_eq_true rfl))
local macro_rules | `(tactic|walk_at "each")=> `(tactic|repeat' (first|exact zjH|refine List.forall_mem_append.mpr ⟨?_,?_⟩|refine List.forall_mem_cons.mpr ⟨?_,?_⟩))
section
variable{P:Program}{w:World}{K:PySem.W.Frag}{mg:Str->Option Value}{base:Heap}
noncomputable def zcA:Sp:=λvs H Q _=>∃(a:Addr) (k n:Int),vs=[.ref a, .int k]/\Hand H a n/\n<2^40/\0<k/\k<1073741824/\∀d H',0<=d->d<k->Hand H' a (n+1)->Keep a H H'->Q (.int d) H'
theorem zb8(Y:Ev K mg):FnOk P w K mg base CX0 1 Y.a__law_take Y.d__law_take zN zcA:=by
 refine Y._law_take.fn.okQ c__law_take (λvs H Q E h=>?_) (λcdv A outer s H vs Q E hr h=>?_)
 ·obtain ⟨a,k,n,rfl,_⟩:=h
  rfl
 ·obtain ⟨a,k,n,rfl,⟨x,m,t,hH,m0,m1,t0,t1⟩,hn,k0,k1,q⟩:=h
  refine⟨_,(zg (zab (zA zjQ (zP ix_list (qv 0) zf) zf) (zg (zw 2 c__law_take.nd (zE zb2 (zP ix_list (qv 0) zf) (qv 1)))
   (zg (zcw (zE zhI (zP ix_list (qv 0) zf) (qv 1)) (zhR (qv 0) zf zdl))
   (zj (zz (qv 2))))) zM)
   (zg (zcw (zE zY (zP ix_list (qv 0) zf) zf) (zhR (qv 0) zf zdl))
   (zg (zw 3 c__law_take.nd (zP ix_list (qv 0) zf))
   (zg (zw 4 c__law_take.nd (zE zb2 (zE za8 (zP ix_list (qv 0) zf) (zE zY (zE zY zf (zE za8 (zE za8 zf (qv 3)) (qv 3))) (zE za8 zf (qv 3)))) zf))
   (zg (zw 5 c__law_take.nd (zE zY (zE zY (zE zb2 (qv 4) zf) (zE za8 (qv 3) zf)) zf))
   (zg (zw 4 c__law_take.nd (zE zb2 (zE za8 (qv 4) (qv 5)) zf))
   (zj (zz (zE zb2 (zE zY (zE zhI (qv 4) zf) (zE zhI (qv 4) zf)) (qv 1)))))))))),?_⟩
  repeat walk_at "rd"
  refine zcG (λhx=>?_) (λhx=>?_)
  ·repeat walk_at "rd"
   exact q _ _ (Int.emod_nonneg _ (by omega)) (Int.emod_lt_of_pos _ k0) ⟨_,m,t,zb,m0,m1,t0,by omega⟩ (Keep.upd _ _ _)
  ·refine vr rfl (ixL hH rfl (ex2 _ _ ⟨rfl,rfl,vr rfl (ex4 a _ _ _ ⟨rfl,rfl,hH,rfl,?_⟩)⟩))
   have h2:upd H a (.lst [.int x, .int m, .int (t+1)]) a=some (.lst [.int x, .int m, .int (t+1)]):=zb
   repeat walk_at "rd"
   exact q _ _ (Int.emod_nonneg _ (by omega)) (Int.emod_lt_of_pos _ k0) ⟨_,m,_,zb,m0,m1,by omega,by omega⟩ (Keep.upd _ _ _)
noncomputable def zbE(K:PySem.W.Frag):Sp:=λvs H Q _=>∃(a:Addr) (n:Int),Hand H a n/\n<2^40/\
 ((∃(b:Addr) (xs:List V),vs=[.ref a, .ref b]/\b≠a/\SqL K H b xs/\0<xs.length/\xs.length<1000/\∀v H',v∈xs->Hand H' a (n+1)->Keep a H H'->Q v H')\/
  (∃z:Str,vs=[.ref a, .str z]/\0<z.length/\z.length<1000/\∀c H',c∈z.cps.toList->Hand H' a (n+1)->Keep a H H'->Q (.str (one c)) H'))
theorem zbM(Y:Ev K mg):FnOk P w K mg base CX0 2 Y.a__law_pick Y.d__law_pick zJ (zbE K):=by
 have G__law_take:FnOk P w K mg base CX0 1 Y.a__law_take Y.d__law_take zN zcA:=zb8 Y
 refine Y._law_pick.fn.okQ zhV (λvs H Q E h=>?_) (λcdv A outer s H vs Q E hr h=>?_)
 ·obtain ⟨a,n,_,_,⟨b,xs,rfl,_⟩|⟨z,rfl,_⟩⟩:=h<;>rfl
 ·obtain ⟨a,n,hH,hn,h⟩:=h
  have hl:∀m:Nat,m<1000->m<=sizeLine:=λm h=>Nat.le_of_lt (zp (Nat.le_of_lt h))
  rcases h with⟨b,xs,rfl,hb,hS,x0,x1,q⟩|⟨z,rfl,z0,z1,q⟩
  ·refine ⟨_,(zj (zz (zP zmX (qv 1) (zk G__law_take (hr.mono (by decide)) Y._law_take.mg Y._law_take.kp Y._law_take.b .nil zm (za (qv 0) (za (zF zam Y.len zch (za (qv 1) zc)) zc)))))),?_⟩
   refine vr rfl (vr rfl (vr rfl (.inl (ex2 b xs ⟨rfl, .inl hS,ex3 a _ n ⟨rfl,hH,hn,by omega,by omega,λd H' h0 h1 hH' kp=>?_⟩⟩))))
   obtain⟨v,e,hv⟩:=zdA h0 h1
   exact .inl (ex4 b xs d v ⟨rfl,rfl,kp.sqL hb hS,e,q v H' hv hH' kp⟩)
  ·refine ⟨_,(zj (zz (zP zmX (qv 1) (zk G__law_take (hr.mono (by decide)) Y._law_take.mg Y._law_take.kp Y._law_take.b .nil zm (za (qv 0) (za (zF zam Y.len zch (za (qv 1) zc)) zc)))))),?_⟩
   refine vr rfl (vr rfl (vr rfl (.inr ⟨z,rfl,hl _ z1,ex3 a _ n ⟨rfl,hH,hn,by omega,by omega,λd H' h0 h1 hH' kp=>?_⟩⟩)))
   obtain⟨c,e,hc⟩:=zdA (xs:=z.cps.toList) h0 (by simpa[Str.length] using h1)
   exact .inr (.inr (ex3 z d c ⟨rfl,rfl,hl _ z1,e,q c H' hc hH' kp⟩))
noncomputable def zmy(K:PySem.W.Frag):Sp:=λvs H Q _=>∃(b:Addr) (ns:List Int) (k:Int),vs=[.ref b, .int k]/\SqL K H b (ns.map V.int)/\0<=k/\k<1000/\∀a H',H a=none->Hand H' a 0->Same H H'->Q (.ref a) H'
theorem znv(Y:Ev K mg):FnOk P w K mg base CX0 1 Y.a__law_hand Y.d__law_hand zbZ (zmy K):=by
 refine Y._law_hand.fn.okQ c__law_hand (λvs H Q E h=>?_) (λcdv A outer s H vs Q E hr h=>?_)
 ·obtain ⟨a,k,n,rfl,_⟩:=h
  rfl
 ·obtain ⟨b,ns,k,rfl,hS,k0,k1,q⟩:=h
  refine⟨_,(zg (zw 2 c__law_hand.nd zf)
   (zg (zab (zA zqE (qv 1) (zF zam Y.len zch (za (qv 0) zc))) (zj (zw 2 c__law_hand.nd (zP ix_list (qv 0) (qv 1)))) zM)
   (zj (zz (zcq (za (zE za8 (qv 2) (zah zcR Y.int zfK (za (zdq zoU (qv 2) (zE zeB zf zf)) zc))) (za (zE zY (zE zY (zE zb2 (qv 2) zf) (zE za8 zf (qv 1))) zf) (za zf zc)))))))),?_⟩
  refine vr rfl (vr rfl (.inl (ex2 b _ ⟨rfl, .inl hS,ex2 _ _ ⟨rfl,rfl,vr rfl ?_⟩⟩)))
  refine zcG (λhx=>?_) (λhx=>?_)
  ·have hx':k<((ns.map V.int).length:Int):=of_decide_eq_true hx
   obtain⟨v,e,hv⟩:=zdA k0 hx'
   obtain⟨c,_,rfl⟩:=List.mem_map.mp hv
   refine vr rfl (vr rfl (ex4 b _ k _ ⟨rfl,rfl,hS,e,?_⟩))
   repeat walk_at "rd"
   intro p hp
   exact q p _ hp ⟨_,_,_,zb,by omega,by omega,by decide,by decide⟩ (λb' o hb'=>by rw[zh (ze hb' hp)];exact hb')
  ·repeat walk_at "rd"
   intro p hp
   exact q p _ hp ⟨_,_,_,zb,by omega,by omega,by decide,by decide⟩ (λb' o hb'=>by rw[zh (ze hb' hp)];exact hb')
end
section
variable{P:Program}{w:World}{K:PySem.W.Frag}{mg:Str->Option Value}{base:Heap}
noncomputable def zit:Sp:=λvs H Q _=>∃(a:Addr) (n:Int) (m:Nat),vs=[.ref a, .int m]/\Hand H a n/\n<2^39/\4<=m/\m<=13/\∀(l:Addr) (xs:List Str) (H':Hp),H l=none->H' l=some (.lst (xs.map V.str))->xs.length=m->(∀x∈xs,zi x=true)->xs.Nodup->(∀x∈xs,x≠"nowhere")->Hand H' a (n+4)->Keep a H H'->Q (.ref l) H'
theorem zkD(Y:Ev K mg):FnOk P w K mg base CX0 3 Y.a__law_names Y.d__law_names zbC zit:=by
 have G__law_take:FnOk P w K mg base CX0 1 Y.a__law_take Y.d__law_take zN zcA:=zb8 Y
 have G__law_pick:FnOk P w K mg base CX0 2 Y.a__law_pick Y.d__law_pick zJ (zbE K):=zbM Y
 refine Y._law_names.fn.okQ c__law_names (λvs H Q E h=>?_) (λcdv A outer s H vs Q E hr h=>?_)
 ·obtain ⟨a,n,m,rfl,_⟩:=h;rfl
 ·obtain ⟨a,n,m,rfl,hH,hn,m4,m13,q⟩:=h
  refine⟨_,(zg (zeq 2 c__law_names.nd zD)
   (zg (zeq 3 c__law_names.nd (zk G__law_take (hr.mono (by decide)) Y._law_take.mg Y._law_take.kp Y._law_take.b .nil zm (za (qv 0) (za zf zc))))
   (zg (zeq 4 c__law_names.nd (zk G__law_pick (hr.mono (by decide)) Y._law_pick.mg Y._law_pick.kp Y._law_pick.b .nil zm (za (qv 0) (za (zeG [V.int 1,V.int 3,V.int 5,V.int 7,V.int 9,V.int 11] (by decide +kernel)) zc))))
   (zg (zdw 5 (src:=[none,some 3,some 2,some 4]) o__law_names_1 rfl rfl c__law_names.nd (zdc Y.range (za (qv 1) zc)) (λ_ _ _ _ _=>(zr 0 o__law_names_1.nd)) (λ_ _ _ _ _=>zgI) (λ_ _ _ _ _=>(zE ziX (zP zmc (qc 2) (zE zb2 (zE zY (qc 1) (zE za8 (qc 3) (qv 0))) zf)) (zE zY zf (zE zb2 (zE zY (zE za8 (qv 0) (qv 0)) (qc 1)) zf)))))
   (zdp (zab (zA zaO (zk G__law_take (hr.mono (by decide)) Y._law_take.mg Y._law_take.kp Y._law_take.b .nil zm (za (qv 0) (za zf zc))) zf) (zg (zw 6 c__law_names.nd (zeG [V.str "goal",V.str "to",V.str "by",V.str "houses",V.str "tie",V.str "like",V.str "hand",V.str "keep",V.str "put",V.str "mark",V.str "long",V.str "from",V.str "strike"] (by decide +kernel)))
   (zg (zw 7 c__law_names.nd (zk G__law_take (hr.mono (by decide)) Y._law_take.mg Y._law_take.kp Y._law_take.b .nil zm (za (qv 0) (za zf zc))))
   (zj (zb1 PassesOwn.never rfl (zdc Y.range (za (zF (zet rfl) Y.min zen (za (qv 1) (za zf zc))) zc)) (zr 8 c__law_names.nd) (zj (zcw (zP ix_list (qv 6) (zE zb2 (zE zY (qv 7) (zE za8 zf (qv 8))) zf)) (zhR (qv 5) (qv 8) zdl))))))) zM)
   (zj (zz (qv 5)))))))),?_⟩
  refine vr rfl (ex3 a 26 n ⟨rfl,hH,by omega,by decide,by decide,λf' H1 f0 f26 hH1 k1=>?_⟩)
  obtain⟨f,rfl⟩:∃f:Nat,f'=(f:Int):=⟨f'.toNat,by omega⟩
  refine vr rfl ⟨by decide,λpl hpl=>⟨a,n+1,hH1.new hpl,by omega, .inl (ex2 pl _ ⟨rfl,hH1.ne hpl,SqL.of zb,by decide,by decide,λv H2 hv hH2 k2=>?_⟩)⟩⟩
  obtain⟨st,rfl,st0,st11⟩:∃st:Nat,v= .int (st:Int)/\st∈zlE/\st<=11:=by
   simp only[List.mem_cons,List.not_mem_nil,or_false] at hv
   rcases hv with rfl|rfl|rfl|rfl|rfl|rfl
   ·exact ⟨1,rfl,by decide,by decide⟩
   ·exact ⟨3,rfl,by decide,by decide⟩
   ·exact ⟨5,rfl,by decide,by decide⟩
   ·exact ⟨7,rfl,by decide,by decide⟩
   ·exact ⟨9,rfl,by decide,by decide⟩
   ·exact ⟨11,rfl,by decide,by decide⟩
  have kp2:Keep a H H2:=k1.trans ((Keep.new hpl).trans k2)
  refine vr rfl ⟨m,rfl,by omega,by omega,?_⟩
  refine zcz zcD (λl i ys σ' H'=>(∃o,σ'=[o,some (.int (f:Int)),some (.str lettersS),some (.int (st:Int))])/\ys=((List.range i).map (nmS f st)).map V.str/\Hand H' a (n+1+1)/\Keep a H2 H') ?_ (λ_ _ _ _ _ _ _=>trivial) ?_ ?_
  ·exact λl hl=>⟨⟨_,rfl⟩,rfl,hH2.new hl,Keep.new hl⟩
  ·rintro l i y ys σ' H' hl hi rfl ⟨⟨o,rfl⟩,rfl,hH',k'⟩ hl'
   have hi13:i<13:=by have:i<m:=by omega
                      omega
   have hr26:(f+st*i)%26<26:=Nat.mod_lt _ (by decide)
   have ei:((f:Int)+(st:Int)*(0+(i:Int)))%26=(((f+st*i)%26:Nat):Int):=by rw[Int.zero_add];push_cast;rfl
   have ec:atI lettersS.cps.toList (((f:Int)+(st:Int)*(0+(i:Int)))%26)=some (97+(f+st*i)%26):=by
    rw[ei];exact zI (zft _ (List.mem_range.mpr hr26))
   have en:(1+((0+(i:Int))*(0+(i:Int))+(f:Int))%8)=((1+(i*i+f)%8:Nat):Int):=by rw[Int.zero_add];push_cast;rfl
   have g8:(i*i+f)%8<8:=Nat.mod_lt _ (by decide)
   refine⟨_,rfl,_,rfl,_,rfl,_,rfl,_,_,rfl,rfl, .inl ⟨by omega,by omega⟩,_,_,rfl,rfl,_,_,rfl,rfl,(by decide:(0:Int)<26),lettersS,_,_,rfl,rfl,by rw[ziK];decide,ec,_,rfl,_,rfl,_,_,rfl,rfl, .inl ⟨by omega,by omega⟩,_,rfl,_,_,rfl,rfl,_,_,rfl,rfl,(by decide:(0:Int)<8),_,_,rfl,rfl,one (97+(f+st*i)%26),_,rfl,rfl,by rw[en];omega,by rw[en];omega,by rw[zj9];decide,by rw[zj9];decide,?_⟩
   have nl:=hH2.ne hl
   refine⟨hl',?_,⟨_,rfl⟩,?_,hH'.updNe nl,k'.updNew hl⟩
   ·rw[List.length_map,List.length_map,List.length_range];exact zp (by omega)
   ·rw[en,Int.toNat_natCast,List.range_succ,List.map_append,List.map_append];rfl
  ·rintro l ys σ' H3 hl ⟨⟨o,rfl⟩,rfl,hH3,k3⟩ hl'
   have nl:=hH2.ne hl
   rw[Int.toNat_natCast] at hl'
   have e0:(List.range m).map (nmS f st)=(List.range m).map (zbq f st 0 0):=by
    apply List.map_congr_left
    intro k _
    unfold zbq
    rw[if_neg (by omega)]
   have hln:H l=none:=by
    cases e:H l with
    |none=>rfl
    |some o=>exact absurd (kp2 l o nl e) (by rw[hl];exact λz=>nomatch z)
   refine⟨λσ' H'=>(∃o6 o7 o8,σ'=[some (.ref a),some (.int m),some (.str lettersS),some (.int (f:Int)),some (.int (st:Int)),some (.ref l),o6,o7,o8])/\(∃sp j:Nat,H' l=some (.lst (((List.range m).map (zbq f st sp j)).map V.str))/\sp<13/\j<=4)/\Hand H' a (n+4)/\Keep a H H',?_,?_⟩
   ·refine vr rfl ⟨a,6,n+1+1,rfl,hH3,by omega,by decide,by decide,λd H4 d0 d6 hH4 k4=>⟨rfl,vr rfl (zcG (λ_=>?_) (λ_=>?_))⟩⟩
    ·have hl4:=k4 _ _ nl hl'
     have kp4:Keep a H H4:=(kp2.trans k3).trans k4
     refine⟨by decide,λpk hpk=>?_⟩
     have npl:pk≠l:=λz=>by rw[z,hl4] at hpk;cases hpk
     have npa:=hH4.ne hpk
     refine vr rfl ⟨a,13,n+1+1+1,rfl,hH4.new hpk,by omega,by decide,by decide,λsp' H5 sp0 sp13 hH5 k5=>?_⟩
     obtain⟨sp,rfl⟩:∃f:Nat,sp'=(f:Int):=⟨sp'.toNat,by omega⟩
     refine vr rfl (ex2 _ _ ⟨rfl,vr rfl ⟨?_,?_,?_⟩⟩)
     ·split<;>omega
     ·split<;>omega
     have e4:(if(4:Int)<(m:Int)then(4:Int)else(m:Int)).toNat=4:=by split<;>omega
     rw[e4]
     refine zaP zcD (λi σ' H'=>(∃o8,σ'=[some (.ref a),some (.int m),some (.str lettersS),some (.int (f:Int)),some (.int (st:Int)),some (.ref l),some (.ref pk),some (.int (sp:Int)),o8])/\H' l=some (.lst (((List.range m).map (zbq f st sp i)).map V.str))/\Hand H' a (n+4)/\Keep a H H'/\H' pk=some (.lst (keptL.map V.str))) ?_ (λ_ _ _ _=>trivial) ?_ ?_
     ·refine ⟨⟨_,rfl⟩,?_,hH5.mono (by omega),kp4.trans ((Keep.new hpk).trans k5),k5 _ _ npa zb⟩
      have e0':(List.range m).map (nmS f st)=(List.range m).map (zbq f st sp 0):=by
       apply List.map_congr_left
       intro k _
       unfold zbq
       rw[if_neg (by omega)]
      rw[←e0']
      exact k5 _ _ nl (by rw[zh (Ne.symm npl)];exact hl4)
     ·rintro i y σ' H6 hi4 rfl ⟨⟨o8,rfl⟩,hz,hH6,k6,hp6⟩
      have ek:((sp:Int)+3*(0+(i:Int)))%13=(((sp+3*i)%13:Nat):Int):=by rw[Int.zero_add];push_cast;rfl
      have ev:atI (keptL.map V.str) (((sp:Int)+3*(0+(i:Int)))%13)=some (.str (kwS sp i)):=by
       rw[ek];exact zI (by rw[List.getElem?_map,znF];rfl)
      have hix:ixN (((List.range m).map (zbq f st sp i)).map V.str).length (0+(i:Int))=some i:=by
       unfold ixN
       rw[if_pos (by omega),if_pos (by rw[List.length_map,List.length_map,List.length_range];omega)]
       congr 1
       omega
      refine vr rfl (vr rfl (vr rfl (ex2 _ _ ⟨rfl,rfl, .inl ⟨by decide,by decide⟩,ex2 _ _ ⟨rfl,rfl,ex2 _ _ ⟨rfl,rfl,(by decide:(0:Int)<13),ixL hp6 ev (vr rfl (vr rfl (ex4 l _ _ i ⟨rfl,rfl,hz,hix,?_⟩)))⟩⟩⟩)))
      refine⟨⟨_,rfl⟩,?_,hH6.updNe nl,k6.updNew hln,by rw[zh npl];exact hp6⟩
      rw[zb,←List.map_set,zmU (by omega)]
     ·rintro σ' H6 ⟨⟨o8,rfl⟩,hz,hH6,k6,_⟩
      exact⟨(ex3 _ _ _ rfl),⟨sp,4,hz,by omega,by decide⟩,hH6,k6⟩
    ·rw[e0] at hl'
     exact⟨(ex3 _ _ _ rfl),⟨0,0,k4 _ _ nl hl',by decide,by decide⟩,hH4.mono (by omega),(kp2.trans k3).trans k4⟩
   ·rintro σ' H' ⟨⟨o6,o7,o8,rfl⟩,⟨sp,j,hz,hsp,hj⟩,hH',k'⟩
    refine vr rfl (q l _ H' hln hz (by rw[List.length_map,List.length_range]) (λx hx=>?_) (zhX (by omega) st0 hsp hj m13) (λx hx=>?_) hH' k')
    ·obtain ⟨k,_,rfl⟩:=List.mem_map.mp hx
     exact zoz _ _ _ _ _
    ·obtain ⟨k,_,rfl⟩:=List.mem_map.mp hx
     exact zkQ _ _ _ _ _
end
section
variable{P:Program}{w:World}{K:PySem.W.Frag}{mg:Str->Option Value}{base:Heap}
def NL(O:List Str)(H:Hp)(l:Addr):Prop:=∃xs:List Str,H l=some (.lst (xs.map V.str))/\0<xs.length/\xs.length<=100/\∀x∈xs,zi x=true/\x∈O
theorem NL.keep{O:List Str}{H H':Hp}{a l:Addr}(h:NL O H l)(k:Keep a H H')(n:l≠a):NL O H' l:=let⟨xs,e,r⟩:=h;⟨xs,k _ _ n e,r⟩
theorem NL.same{O:List Str}{H H':Hp}{l:Addr}(h:NL O H l)(k:Same H H'):NL O H' l:=let⟨xs,e,r⟩:=h;⟨xs,k _ _ e,r⟩
theorem zcQ{O:List Str}{H:Hp}{a l:Addr}{n:Int}{Q:VK}(hH:Hand H a n)(hn:n<2^40)(hl:NL O H l)(hla:l≠a)(q:∀x H',(zi x=true/\x∈O)->Hand H' a (n+1)->Keep a H H'->Q (.str x) H'):zbE K [.ref a, .ref l] H Q E0:=by
 obtain⟨xs,e,x0,x1,hx⟩:=hl
 refine⟨a,n,hH,hn, .inl (ex2 l _ ⟨rfl,hla,SqL.of e,by rw[List.length_map];exact x0,by rw[List.length_map];omega,λv H' hv hH' k'=>?_⟩)⟩
 obtain⟨x,hxx,rfl⟩:=List.mem_map.mp hv
 exact q x H' (hx x hxx) hH' k'
theorem zau{x:Str}(h:zi x=true):x.length<=1000:=by
 unfold zi at h
 simp only[Bool.and_eq_true,decide_eq_true_eq] at h
 omega
theorem zdQ{y x:Str}(hy:y∈namingL)(hx:zi x=true):zG (.tup [.str y, .str x])=true:=by
 have h1:¬y="long":=by
  intro z
  subst z
  revert hy
  decide +kernel
 have h2:(namingL.any λz=>decide (z=y))=true:=List.any_eq_true.mpr ⟨y,hy,decide_eq_true rfl⟩
 rw[zef,if_neg h1,h2,zio,hx];rfl
theorem zja{d:D}(h:zG d=true):zL d=true:=by
 obtain⟨x,e,rfl⟩:=zcn d h
 by_cases hx:x="not"
 ·subst hx;rw[zdv] at h;cases h
 ·rw[zd9,if_neg hx];exact h
theorem zjM{d:D}(h:zG d=true)(ha:zeN d=false):zd2 d=false:=by
 obtain⟨x,e,rfl⟩:=zcn d h
 by_cases hx:x="not"
 ·subst hx;rw[zdv] at h;cases h
 ·show (if x="not"then zeN e else decide (x="to"))=false
  rw[if_neg hx];exact ha
noncomputable def zmg:Sp:=λvs H Q _=>∃(a h m:Addr) (n:Int) (to:Bool) (O:List Str),vs=[.ref a, .ref h, .ref m, .bl to]/\Hand H a n/\n<2^39/\NL O H h/\NL O H m/\h≠a/\m≠a/\∀v d H',Rep H' v d->(zL d=true/\zcd O d=true)->(to=false->zd2 d=false)->Hand H' a (n+4)->Keep a H H'->Q v H'
theorem znw(Y:Ev K mg):FnOk P w K mg base CX0 3 Y.a__law_cond Y.d__law_cond zb0 zmg:=by
 have G__law_take:FnOk P w K mg base CX0 1 Y.a__law_take Y.d__law_take zN zcA:=zb8 Y
 have G__law_pick:FnOk P w K mg base CX0 2 Y.a__law_pick Y.d__law_pick zJ (zbE K):=zbM Y
 refine Y._law_cond.fn.okQ c__law_cond (λvs H Q E h=>?_) (λcdv A outer s H vs Q E hr h=>?_)
 ·obtain ⟨a,h,m,n,to,O,rfl,_⟩:=h;rfl
 ·obtain ⟨a,h,m,n,to,O,rfl,hH,hn,hh,hm,nh,nm,q⟩:=h
  refine⟨_,(zg (zw 4 c__law_cond.nd (zk G__law_take (hr.mono (by decide)) Y._law_take.mg Y._law_take.kp Y._law_take.b .nil zm (za (qv 0) (za (zE zY zf (zah zcR Y.int zfK (za (qv 3) zc))) zc))))
   (zg (zw 5 c__law_cond.nd (zx (za zD (za (zk G__law_pick (hr.mono (by decide)) Y._law_pick.mg Y._law_pick.kp Y._law_pick.b .nil zm (za (qv 0) (za (qv 1) zc))) zc))))
   (zdp (zab (t_w (zk6 (zA zaO (qv 4) zf) (zgr (zA zaO (qv 4) zf)))) (zj (zw 5 c__law_cond.nd (zx (za zD (za (zk G__law_pick (hr.mono (by decide)) Y._law_pick.mg Y._law_pick.kp Y._law_pick.b .nil zm (za (qv 0) (za (qv 1) zc))) zc))))) (zj (zab (zA zaO (qv 4) zf) (zj (zw 5 c__law_cond.nd (zx (za zD (za (zk G__law_pick (hr.mono (by decide)) Y._law_pick.mg Y._law_pick.kp Y._law_pick.b .nil zm (za (qv 0) (za (zeG [V.int 0,V.int 1,V.int 2,V.int 3,V.int 4,V.int 99] (by decide +kernel)) zc))) zc))))) (zj (zab (zA zaO (qv 4) zf) (zj (zw 5 c__law_cond.nd (zx (za zD (za (zk G__law_pick (hr.mono (by decide)) Y._law_pick.mg Y._law_pick.kp Y._law_pick.b .nil zm (za (qv 0) (za (qv 2) zc))) zc))))) (zj (zab (zA zaO (qv 4) zf) (zj (zw 5 c__law_cond.nd (zx (za zD (za (zk G__law_pick (hr.mono (by decide)) Y._law_pick.mg Y._law_pick.kp Y._law_pick.b .nil zm (za (qv 0) (za (qv 1) zc))) zc))))) zM)))))))
   (zdp (zab (zA zaO (zk G__law_take (hr.mono (by decide)) Y._law_take.mg Y._law_take.kp Y._law_take.b .nil zm (za (qv 0) (za zf zc))) zf) (zj (zw 5 c__law_cond.nd (zx (za zD (za (qv 5) zc))))) zM)
   (zj (zz (qv 5))))))),?_⟩
  refine vr rfl (vr rfl (.inr ⟨to,rfl,ex2 _ _ ⟨rfl,rfl,ex3 a _ n ⟨rfl,hH,by omega,by split<;>omega,by split<;>omega,λt H1 t0 t5 hH1 k1=>?_⟩⟩⟩))
  refine vr rfl (vr rfl (zcQ hH1 (by omega) (hh.keep k1 nh) nh λx H2 hx hH2 k2=>⟨few rfl,λp2 hp2=>?_⟩))
  have mk2:∀{H0:Hp} {p:Addr} {y x:Str},y.length<=1000->(zi x=true/\x∈O)->Rep (upd H0 p (.tup [.str y, .str x])) (.ref p) (.tup [.str y, .str x]):=λhy hx=> .mk2 zb (.str _ hy) (.str _ (zau hx.1))
  have hh2:NL O (upd H2 p2 (.tup [.str "by", .str x])) h:=((hh.keep k1 nh).keep k2 nh).same (Same.new hp2)
  have hm2:NL O (upd H2 p2 (.tup [.str "by", .str x])) m:=((hm.keep k1 nm).keep k2 nm).same (Same.new hp2)
  have hH2':=hH2.new (o:= .tup [.str "by", .str x]) hp2
  have kp2:Keep a H (upd H2 p2 (.tup [.str "by", .str x])):=(k1.trans k2).trans (Keep.new hp2)
  refine⟨λσ' H'=>∃v d,σ'=[some (.ref a),some (.ref h),some (.ref m),some (.bl to),some (.int t),some v]/\Rep H' v d/\(zG d=true/\zaa O d=true)/\(to=false->zeN d=false)/\Hand H' a (n+3)/\Keep a H H',?_,?_⟩
  ·have ap:∀{y x:Str},¬y="to"->zeN (.tup [.str y, .str x])=false:=λh=>decide_eq_false h
   have br:∀{y:Str},y.length<=1000->y∈namingL->¬y="to"->∀(l:Addr),l≠a->NL O (upd H2 p2 (.tup [.str "by", .str x])) l->∀R:V->Hp->Prop,(∀v d H',Rep H' v d->(zG d=true/\zaa O d=true)->(to=false->zeN d=false)->Hand H' a (n+3)->Keep a H H'->R v H')->
    zbE K [.ref a, .ref l] (upd H2 p2 (.tup [.str "by", .str x])) (λv H3=> [V.str y,v].length<=sizeLine/\∀p,H3 p=none->R (.ref p) (upd H3 p (.tup [V.str y,v]))) E0:=by
    intro y hy hyn hyt l nl hl R hR
    refine zcQ hH2' (by omega) hl nl λx3 H3 hx3 hH3 k3=>⟨few rfl,λp3 hp3=>?_⟩
    exact hR _ _ _ (mk2 hy hx3) ⟨zdQ hyn hx3.1,zbV hx3.2⟩ (λ_=>ap hyt) ((hH3.new hp3).mono (by omega)) ((kp2.trans k3).trans (Keep.new hp3))
   have fin:∀v d H',Rep H' v d->(zG d=true/\zaa O d=true)->(to=false->zeN d=false)->Hand H' a (n+3)->Keep a H H'->(λ(v:V) (H':Hp)=>∃v0 d,[some (V.ref a),some (.ref h),some (.ref m),some (.bl to),some (.int t),some v]=[some (.ref a),some (.ref h),some (.ref m),some (.bl to),some (.int t),some v0]/\Rep H' v0 d/\(zG d=true/\zaa O d=true)/\(to=false->zeN d=false)/\Hand H' a (n+3)/\Keep a H H') v H':=
    λv d H' h1 h2 h3 h4 h5=>⟨v,d,rfl,h1,h2,h3,h4,h5⟩
   refine vr rfl ⟨rfl,vr rfl (zcG (λ_=>?_) (λ_=>(vr rfl ⟨rfl,vr rfl (zcG (λ_=>?_) (λ_=>?_))⟩)))⟩
   ·exact vr rfl (vr rfl (br (by decide) (by decide) (by decide +kernel) h nh hh2 _ fin))
   ·exact vr rfl (vr rfl (br (by decide) (by decide) (by decide +kernel) h nh hh2 _ fin))
   refine vr rfl ⟨rfl,vr rfl (zcG (λ_=>?_) (λ_=>(vr rfl ⟨rfl,vr rfl (zcG (λ_=>?_) (λ_=>(vr rfl ⟨rfl,vr rfl (zcG (λh5=>?_) (λ_=>?_))⟩)))⟩)))⟩
   ·refine vr rfl ⟨by decide,λpl hpl=>⟨a,n+2,(hH2'.mono (by omega)).new hpl,by omega, .inl (ex2 pl _ ⟨rfl,hH2'.ne hpl,SqL.of zb,by decide,by decide,λv H3 hv hH3 k3=>⟨few rfl,λp3 hp3=>?_⟩⟩)⟩⟩
    have hk:∃j:Int,v= .int j/\0<=j/\j<=99:=by
     simp only[List.mem_cons,List.not_mem_nil,or_false] at hv
     rcases hv with rfl|rfl|rfl|rfl|rfl|rfl<;>exact ⟨_,rfl,by decide,by decide⟩
    obtain⟨j,rfl,j0,j9⟩:=hk
    refine fin _ (.tup [.str "long", .int j]) _ (.mk2 zb (.str _ (by decide)) (.int _)) ?_ (λ_=>(by decide +kernel:decide (("long":Str)="to")=false)) ((hH3.new hp3).mono (by omega)) ((kp2.trans ((Keep.new hpl).trans k3)).trans (Keep.new hp3))
    refine⟨?_,rfl⟩
    rw[zef,if_pos rfl]
    show(decide (0<=j)&&decide (j<=99))=true
    rw[decide_eq_true j0,decide_eq_true j9];rfl
   ·exact vr rfl (vr rfl (br (by decide) (by decide) (by decide +kernel) m nm hm2 _ fin))
   ·refine vr rfl (vr rfl (zcQ hH2' (by omega) hh2 nh λx3 H3 hx3 hH3 k3=>⟨few rfl,λp3 hp3=>?_⟩))
    refine fin _ _ _ (mk2 (by decide) hx3) ⟨zdQ (by decide) hx3.1,zbV hx3.2⟩ (λz=>?_) ((hH3.new hp3).mono (by omega)) ((kp2.trans k3).trans (Keep.new hp3))
    subst z
    have e5:t=5:=V.int.inj (of_decide_eq_true h5)
    simp at t5
    omega
   ·exact fin _ _ _ (mk2 (by decide) hx) ⟨zdQ (by decide) hx.1,zbV hx.2⟩ (λ_=>ap (by decide +kernel)) (hH2'.mono (by omega)) kp2
  ·rintro σ' H3 ⟨v,d,rfl,hv,hd,hto,hH3,k3⟩
   refine⟨λσ' H'=>∃v d,σ'=[some (.ref a),some (.ref h),some (.ref m),some (.bl to),some (.int t),some v]/\Rep H' v d/\(zL d=true/\zcd O d=true)/\(to=false->zd2 d=false)/\Hand H' a (n+4)/\Keep a H H',?_,?_⟩
   ·refine vr rfl (ex3 a 4 (n+3) ⟨rfl,hH3,by omega,by decide,by decide,λd4 H4 _ _ hH4 k4=>⟨rfl,vr rfl (zcG (λ_=>?_) (λ_=>?_))⟩⟩)
    ·have hv4:=hv.mono (Mono.keep k4 hH3 hH4)
     refine vr rfl ⟨few rfl,λp5 hp5=>⟨_, .tup [.str "not",d],rfl, .mk2 zb (.str _ (by decide)) (hv4.mono (.new hp5)),?_,?_,(hH4.new hp5).mono (by omega),(k3.trans k4).trans (Keep.new hp5)⟩⟩
     ·exact ⟨by rw[zd9,if_pos rfl];exact hd.1,zi4 hd.2⟩
     ·exact λz=>hto z
    ·refine ex2 _ d ⟨rfl,hv.mono (Mono.keep k4 hH3 hH4),⟨zja hd.1,zkL hd.1 hd.2⟩,λz=>zjM hd.1 (hto z),hH4.mono (by omega),k3.trans k4⟩
   ·rintro σ' H4 ⟨v,d,rfl,hv,hd,hto,hH4,k4⟩
    exact vr rfl (q v d H4 hv hd hto hH4 k4)
end
section
variable{P:Program}{w:World}{K:PySem.W.Frag}{mg:Str->Option Value}{base:Heap}
theorem zhO{ds:List D}(hl:ds.length<=4)(h:∀d∈ds,zL d=true):zaG (.tup ds)=true:=by
 rw[zhW,decide_eq_true hl,List.all_eq_true.mpr h];rfl
theorem zfx{α:Type}{P:α->Prop}{ds:List α}(h:∀(i:Nat) (d:α),ds[i]?=some d->P d):∀d∈ds,P d:=λd hd=>by
 obtain⟨i,hi,e⟩:=List.getElem_of_mem hd
 exact h i d (by rw[List.getElem?_eq_getElem hi,e])
noncomputable def zhH:Sp:=λvs H Q _=>∃(a h m:Addr) (n:Int) (to:Bool) (O:List Str),vs=[.ref a, .ref h, .ref m, .bl to]/\Hand H a n/\n<2^38/\NL O H h/\NL O H m/\h≠a/\m≠a/\∀v ds H',Rep H' v (.tup ds)->ds.length<=4->(∀d∈ds,zL d=true)->(∀d∈ds,zcd O d=true)->(to=false->∀d∈ds,zd2 d=false)->Hand H' a (n+17)->Keep a H H'->Q v H'
theorem zin(Y:Ev K mg):FnOk P w K mg base CX0 4 Y.a__law_conds Y.d__law_conds zaX zhH:=by
 have G__law_pick:FnOk P w K mg base CX0 2 Y.a__law_pick Y.d__law_pick zJ (zbE K):=zbM Y
 have G__law_cond:FnOk P w K mg base CX0 3 Y.a__law_cond Y.d__law_cond zb0 zmg:=znw Y
 refine Y._law_conds.fn.okQ c__law_conds (λvs H Q E h=>?_) (λcdv A outer s H vs Q E hr h=>?_)
 ·obtain ⟨a,h,m,n,to,O,rfl,_⟩:=h;rfl
 ·obtain ⟨a,h,m,n,to,O,rfl,hH,hn,hh,hm,nh,nm,q⟩:=h
  refine⟨_,(zg (zw 4 c__law_conds.nd (zk G__law_pick (hr.mono (by decide)) Y._law_pick.mg Y._law_pick.kp Y._law_pick.b .nil zm (za (qc 0) (za (zeG [V.int 1,V.int 1,V.int 1,V.int 2,V.int 0,V.int 4] (by decide +kernel)) zc))))
   (zj (zz (zah zV Y.tuple zbz (za (zdR (src:=[none,some 0,some 1,some 2,some 3]) o__law_conds_1 rfl rfl (zdc Y.range (za (qv 4) zc)) (λ_ _ _ _ _=>(zr 0 o__law_conds_1.nd)) (λ_ _ _ _ _=>zgI) (λ_ _ _ _ _=>(zk G__law_cond (hr.mono (by decide)) Y._law_cond.mg Y._law_cond.kp Y._law_cond.b .nil zm (za (qc 1) (za (qc 2) (za (qc 3) (za (qc 4) zc))))))) zc))))),?_⟩
  refine vr rfl ⟨by decide,λpl hpl=>⟨a,n,hH.new hpl,by omega, .inl (ex2 pl _ ⟨rfl,hH.ne hpl,SqL.of zb,by decide,by decide,λv H1 hv hH1 k1=>?_⟩)⟩⟩
  obtain⟨c,rfl,c4⟩:∃c:Nat,v= .int (c:Int)/\c<=4:=by
   simp only[List.mem_cons,List.not_mem_nil,or_false] at hv
   rcases hv with rfl|rfl|rfl|rfl|rfl|rfl
   ·exact ⟨1,rfl,by decide⟩
   ·exact ⟨1,rfl,by decide⟩
   ·exact ⟨1,rfl,by decide⟩
   ·exact ⟨2,rfl,by decide⟩
   ·exact ⟨0,rfl,by decide⟩
   ·exact ⟨4,rfl,by decide⟩
  have kp1:Keep a H H1:=(Keep.new hpl).trans k1
  have hh1:=(hh.same (Same.new (o:= .lst [V.int 1,V.int 1,V.int 1,V.int 2,V.int 0,V.int 4]) hpl)).keep k1 nh
  have hm1:=(hm.same (Same.new (o:= .lst [V.int 1,V.int 1,V.int 1,V.int 2,V.int 0,V.int 4]) hpl)).keep k1 nm
  refine vr rfl ⟨c,rfl,by omega,by omega,?_⟩
  rw[Int.toNat_natCast]
  refine zi9 (a:=a) (m:=n+1) (c:=4) (Pd:=λ_ d=>(zL d=true/\zcd O d=true)/\(to=false->zd2 d=false)) (σr:=[some (.ref a),some (.ref h),some (.ref m),some (.bl to)]) rfl hH1 (by omega) (by decide) (λj H2 Q1 hj hH2 k2 q1=>?_) (λl vs ds H2 hl hl2 r2 hds pd hH2 k2=>?_)
  ·exact vr rfl (vr rfl (vr rfl (vr rfl (ex4 a h m _ (ex2 to O ⟨rfl,hH2,by omega,hh1.keep k2 nh,hm1.keep k2 nm,nh,nm,λv d H3 rv hc ht hH3 k3=>q1 v d H3 rv ⟨hc,ht⟩ hH3 k3⟩)))))
  ·refine ex2 l vs ⟨rfl, .inl ⟨SqL.of hl2,λp hp=>?_⟩⟩
   have pd':=zfx (P:=λd=>(zL d=true/\zcd O d=true)/\(to=false->zd2 d=false)) pd
   exact q _ ds _ (.mkL zb (by omega) (r2.mono (.new hp))) (by omega) (λd hd=>(pd' d hd).1.1) (λd hd=>(pd' d hd).1.2) (λz d hd=>(pd' d hd).2 z) ((hH2.new hp).mono (by omega)) ((kp1.trans k2).trans (Keep.new hp))
def zoF(g:D->Bool)(H':Hp)(ls:Addr)(i:Nat):Prop:=∃(zs:List V) (ds:List D),H' ls=some (.lst zs)/\RepL H' zs ds/\ds.length=i/\∀d∈ds,g d=true
noncomputable def zfd(g:List Str->D->Bool):Sp:=λvs H Q _=>∃(a h m:Addr) (n:Int) (O:List Str),vs=[.ref a, .ref h, .ref m]/\Hand H a n/\n<2^37/\NL O H h/\NL O H m/\h≠a/\m≠a/\∀v ds H',Rep H' v (.tup ds)->ds.length<=12->(∀d∈ds,g O d=true)->Hand H' a (n+400)->Keep a H H'->Q v H'
theorem zlb{ds:List D}{x:D}(hl:ds.length<=4)(h:∀d∈ds,zL d=true)(ha:∀d∈ds,zd2 d=false)(hx:zbU x=true):zS (.tup [.tup ds,x])=true:=by
 rw[zk1,zhO hl h,hx]
 have:zd8 (.tup ds)=false:=by
  show ds.any zd2=false
  rw[List.any_eq_false]
  exact λd hd z=>by rw[ha d hd] at z;cases z
 rw[this];rfl
theorem zji(Y:Ev K mg):FnOk P w K mg base CX0 5 Y.a__law_likings Y.d__law_likings zaS (zfd zhu):=by
 have G__law_take:FnOk P w K mg base CX0 1 Y.a__law_take Y.d__law_take zN zcA:=zb8 Y
 have G__law_pick:FnOk P w K mg base CX0 2 Y.a__law_pick Y.d__law_pick zJ (zbE K):=zbM Y
 have G__law_conds:FnOk P w K mg base CX0 4 Y.a__law_conds Y.d__law_conds zaX zhH:=zin Y
 refine Y._law_likings.fn.okQ c__law_likings (λvs H Q E h=>?_) (λcdv A outer s H vs Q E hr h=>?_)
 ·obtain ⟨a,h,m,n,O,rfl,_⟩:=h;rfl
 ·obtain ⟨a,h,m,n,O,rfl,hH,hn,hh,hm,nh,nm,q⟩:=h
  refine⟨_,(zg (zw 3 c__law_likings.nd (zcq zc))
   (zg (zb1 PassesOwn.never rfl (zdc Y.range (za (zE zY (zk G__law_take (hr.mono (by decide)) Y._law_take.mg Y._law_take.kp Y._law_take.b .nil zm (za (qv 0) (za zf zc))) (zE za8 zf (zah zcR Y.int zfK (za (zdq zaO (zk G__law_take (hr.mono (by decide)) Y._law_take.mg Y._law_take.kp Y._law_take.b .nil zm (za (qv 0) (za zf zc))) zf) zc)))) zc)) (zr 4 c__law_likings.nd) (zg (zw 5 c__law_likings.nd (zk G__law_pick (hr.mono (by decide)) Y._law_pick.mg Y._law_pick.kp Y._law_pick.b .nil zm (za (qv 0) (za (zcq (za zf (za zf (za zf (za (zhb zc2 zf) (za zf (za zf (za (zhb zc2 zf) (za z9 zc))))))))) zc))))
   (zj (zcg (zga PySem.F.plainAttrs_list PySem.F.slot_list_append PySem.F.type_list_append zaZ (qv 3) (za (zx (za (zk G__law_conds (hr.mono (by decide)) Y._law_conds.mg Y._law_conds.kp Y._law_conds.b .nil zm (za (qv 0) (za (qv 1) (za (qv 2) (za zeZ zc))))) (za (qv 5) zc))) zc))))))
   (zj (zz (zah zV Y.tuple zbz (za (qv 3) zc)))))),?_⟩
  refine⟨few rfl,λls hls=>?_⟩
  have nls:=hH.ne hls
  refine vr rfl (ex3 a 4 n ⟨rfl,hH.new hls,by omega,by decide,by decide,λt H1 t0 t4 hH1 k1=>(vr rfl (ex3 a 8 (n+1) ⟨rfl,hH1,by omega,by decide,by decide,λu H2 u0 u8 hH2 k2=>?_⟩))⟩)
  have hl1:H1 ls=some (.lst []):=k1 _ _ nls zb
  have hl2:H2 ls=some (.lst []):=k2 _ _ nls hl1
  have kp2:Keep a H H2:=((Keep.new hls).trans k1).trans k2
  refine⟨rfl, .inr (vr rfl (ex2 _ _ ⟨rfl,rfl, .inl ⟨by decide,by decide⟩,ex2 _ _ ⟨rfl,rfl,vr rfl ⟨?_,?_,?_⟩⟩⟩))⟩
  ·split<;>omega
  ·split<;>omega
  have hN:(t+9*(if decide (V.int u=V.int 0)=true then(1:Int)else 0)).toNat<=12:=by split<;>omega
  generalize (t+9*(if decide (V.int u=V.int 0)=true then(1:Int)else 0)).toNat=N at *
  refine zaP zcD (λi σ' H'=>(∃o1 o2,σ'=[some (.ref a),some (.ref h),some (.ref m),some (.ref ls),o1,o2])/\zoF (zhu O) H' ls i/\Hand H' a (n+2+18*i)/\Keep a H H') ?_ (λ_ _ _ _=>trivial) ?_ ?_
  ·exact ⟨(ex2 _ _ rfl),⟨[],[],hl2,RepL.nil,rfl,λ_ z=>nomatch z⟩,hH2.mono (by omega),kp2⟩
  ·rintro i y σ' H3 hi rfl ⟨⟨o1,o2,rfl⟩,⟨zs,ds,hz,rz,hdl,hds⟩,hH3,k3⟩
   have rz1:=rz.1
   refine vr rfl (zp7 (ds:=[.int 5, .int 5, .int 1, .int (-3), .int 0, .int 999, .int (-999), .non]) (by walk_at "dsp") λl4 vs4 H4 s4 e4 r4=>?_)
   refine⟨a,_,hH3.same s4,by omega, .inl (ex2 l4 _ ⟨rfl,zjy (hH3.same s4) e4 r4 (by decide),SqL.of e4,by rw[r4.1];decide,by rw[r4.1];decide,λv H5 hv hH5 k5=>?_⟩)⟩
   obtain⟨dn,rn,hw,hwo⟩:∃dn,Rep H5 v dn/\zbU dn=true/\zaa O dn=true:=by
    obtain⟨j,hj,ej⟩:=List.getElem_of_mem hv
    obtain⟨d,hd,rd⟩:=r4.get (i:=j) (v:=v) (by rw[List.getElem?_eq_getElem hj,ej])
    refine⟨d,rd.mono (.keep k5 (hH3.same s4) hH5),?_⟩
    have key:∀d∈([.int 5, .int 5, .int 1, .int (-3), .int 0, .int 999, .int (-999), .non]:List D),zbU d=true/\zaa O d=true:=by walk_at "each"<;>exact ⟨by decide,rfl⟩
    exact key d (List.mem_of_getElem? hd)
   have k35:Keep a H3 H5:=(Keep.of s4).trans k5
   have hz5:=k35 _ _ nls hz
   have hh5:=(hh.keep k3 nh).keep k35 nh
   have hm5:=(hm.keep k3 nm).keep k35 nm
   refine vr rfl ⟨.inl ⟨rfl,_,SqL.of hz5⟩,vr rfl (vr rfl (vr rfl (ex4 a h m _ (ex2 false O ⟨rfl,hH5,by omega,hh5,hm5,nh,nm,λvc dc H6 rc lc hc hco hto hH6 k6=>(vr rfl ⟨few rfl,λp7 hp7=>?_⟩)⟩))))⟩
   have m36:Mono H3 H6:=(Mono.keep k35 hH3 hH5).trans (.keep k6 hH5 hH6)
   have hz7:upd H6 p7 (.tup [vc,v]) ls=some (.lst zs):=by rw[zh (ze (k6 _ _ nls hz5) hp7)];exact k6 _ _ nls hz5
   refine ex3 ls _ _ ⟨rfl,rfl,hz7,zp (by omega),(ex2 _ _ rfl),⟨_,ds ++ [.tup [.tup dc,dn]],zb,?_,?_,?_⟩,?_,?_⟩
   ·exact RepL.mono (.append ((rz.mono m36).mono (.new hp7)) (.cons (.mk2 zb (rc.mono (.new hp7)) ((rn.mono (.keep k6 hH5 hH6)).mono (.new hp7))) .nil)) (.lset hz7)
   ·rw[List.length_append,hdl];rfl
   ·intro d hd
    rcases List.mem_append.mp hd with hd|hd
    ·exact hds d hd
    ·rw[List.mem_singleton.mp hd];exact Bool.and_eq_true _ _▸⟨zlb lc hc (hto rfl) hw,zgv hco hwo⟩
   ·exact ((hH6.new hp7).updNe nls).mono (by rw[show((i+1:Nat):Int)=(i:Int)+1 by omega];omega)
   ·exact Keep.updNew ((k3.trans (k35.trans k6)).trans (Keep.new hp7)) hls
  ·rintro σ' H3 ⟨⟨o1,o2,rfl⟩,⟨zs,ds,hz,rz,hdl,hds⟩,hH3,k3⟩
   refine vr rfl (ex2 ls zs ⟨rfl, .inl ⟨SqL.of hz,λp hp=>?_⟩⟩)
   exact q _ ds _ (.mkL zb (by omega) (rz.mono (.new hp))) (by omega) hds ((hH3.new hp).mono (by omega)) (k3.trans (Keep.new hp))
end
section
variable{P:Program}{w:World}{K:PySem.W.Frag}{mg:Str->Option Value}{base:Heap}
theorem zoo{ds:List D}{x:D}(hl:ds.length<=4)(h:∀d∈ds,zL d=true)(hx:zcf x=true):zb6 (.tup [.tup ds,x])=true:=by
 rw[zn9,zhO hl h,hx];rfl
theorem zmB{y x:Str}(hx:zi x=true)(hy:y="put"\/y="strike"):zcf (.tup [.str y, .str x])=true:=by
 rw[zpe,zio,hx]
 rcases hy with rfl|rfl<;>decide +kernel
theorem zmz(Y:Ev K mg):FnOk P w K mg base CX0 5 Y.a__law_hands Y.d__law_hands zby (zfd zho):=by
 have G__law_take:FnOk P w K mg base CX0 1 Y.a__law_take Y.d__law_take zN zcA:=zb8 Y
 have G__law_pick:FnOk P w K mg base CX0 2 Y.a__law_pick Y.d__law_pick zJ (zbE K):=zbM Y
 have G__law_conds:FnOk P w K mg base CX0 4 Y.a__law_conds Y.d__law_conds zaX zhH:=zin Y
 refine Y._law_hands.fn.okQ c__law_hands (λvs H Q E h=>?_) (λcdv A outer s H vs Q E hr h=>?_)
 ·obtain ⟨a,h,m,n,O,rfl,_⟩:=h;rfl
 ·obtain ⟨a,h,m,n,O,rfl,hH,hn,hh,hm,nh,nm,q⟩:=h
  refine⟨_,(zg (zw 3 c__law_hands.nd (zcq zc))
   (zg (zb1 PassesOwn.never rfl (zdc Y.range (za (zE zY (zk G__law_pick (hr.mono (by decide)) Y._law_pick.mg Y._law_pick.kp Y._law_pick.b .nil zm (za (qv 0) (za (zeG [V.int 0,V.int 0,V.int 1,V.int 2] (by decide +kernel)) zc))) (zE za8 zf (zah zcR Y.int zfK (za (zdq zaO (zk G__law_take (hr.mono (by decide)) Y._law_take.mg Y._law_take.kp Y._law_take.b .nil zm (za (qv 0) (za zf zc))) zf) zc)))) zc)) (zr 4 c__law_hands.nd) (zg (zw 5 c__law_hands.nd (zk G__law_pick (hr.mono (by decide)) Y._law_pick.mg Y._law_pick.kp Y._law_pick.b .nil zm (za (qv 0) (za (zcq (za (zx (za zD zc)) (za (zx (za zD (za (zk G__law_pick (hr.mono (by decide)) Y._law_pick.mg Y._law_pick.kp Y._law_pick.b .nil zm (za (qv 0) (za (qv 2) zc))) zc))) (za (zx (za zD (za (zk G__law_pick (hr.mono (by decide)) Y._law_pick.mg Y._law_pick.kp Y._law_pick.b .nil zm (za (qv 0) (za (qv 2) zc))) zc))) zc)))) zc))))
   (zj (zcg (zga PySem.F.plainAttrs_list PySem.F.slot_list_append PySem.F.type_list_append zaZ (qv 3) (za (zx (za (zk G__law_conds (hr.mono (by decide)) Y._law_conds.mg Y._law_conds.kp Y._law_conds.b .nil zm (za (qv 0) (za (qv 1) (za (qv 2) (za zeZ zc))))) (za (qv 5) zc))) zc))))))
   (zj (zz (zah zV Y.tuple zbz (za (qv 3) zc)))))),?_⟩
  refine⟨few rfl,λls hls=>?_⟩
  have nls:=hH.ne hls
  have hH0:=hH.new (o:= .lst []) hls
  refine vr rfl ⟨by decide,λpk hpk=>⟨a,n,hH0.new hpk,by omega, .inl (ex2 pk _ ⟨rfl,hH0.ne hpk,SqL.of zb,by decide,by decide,λv H1 hv hH1 k1=>?_⟩)⟩⟩
  obtain⟨c,rfl,c0,c4⟩:∃c:Int,v= .int c/\0<=c/\c<=4:=by
   simp only[List.mem_cons,List.not_mem_nil,or_false] at hv
   rcases hv with rfl|rfl|rfl|rfl<;>exact ⟨_,rfl,by decide,by decide⟩
  refine vr rfl (ex3 a 8 (n+1) ⟨rfl,hH1,by omega,by decide,by decide,λu H2 u0 u8 hH2 k2=>?_⟩)
  have hl0:upd H ls (.lst []) ls=some (.lst []):=zb
  have hl1:H1 ls=some (.lst []):=k1 _ _ nls (by rw[zh (ze hl0 hpk)];exact hl0)
  have hl2:H2 ls=some (.lst []):=k2 _ _ nls hl1
  have kp2:Keep a H H2:=((Keep.new hls).trans ((Keep.new hpk).trans k1)).trans k2
  refine⟨rfl, .inr (vr rfl (ex2 _ _ ⟨rfl,rfl, .inl ⟨by decide,by decide⟩,ex2 _ _ ⟨rfl,rfl,vr rfl ⟨?_,?_,?_⟩⟩⟩))⟩
  ·split<;>omega
  ·split<;>omega
  have hN:(c+8*(if decide (V.int u=V.int 0)=true then(1:Int)else 0)).toNat<=12:=by split<;>omega
  generalize (c+8*(if decide (V.int u=V.int 0)=true then(1:Int)else 0)).toNat=N at *
  refine zaP zcD (λi σ' H'=>(∃o1 o2,σ'=[some (.ref a),some (.ref h),some (.ref m),some (.ref ls),o1,o2])/\zoF (zho O) H' ls i/\Hand H' a (n+2+20*i)/\Keep a H H') ?_ (λ_ _ _ _=>trivial) ?_ ?_
  ·exact ⟨(ex2 _ _ rfl),⟨[],[],hl2,RepL.nil,rfl,λ_ z=>nomatch z⟩,hH2.mono (by omega),kp2⟩
  ·rintro i y σ' H3 hi rfl ⟨⟨o1,o2,rfl⟩,⟨zs,ds,hz,rz,hdl,hds⟩,hH3,k3⟩
   have rz1:=rz.1
   refine vr rfl ⟨few rfl,λp1 hp1=>?_⟩
   have S1:Same H3 (upd H3 p1 (.tup [.str "keep"])):=Same.new hp1
   have hm3:=hm.keep k3 nm
   have hh3:=hh.keep k3 nh
   refine vr rfl (vr rfl (zcQ (hH3.new hp1) (by omega) (hm3.same S1) nm λx H4 hx hH4 k4=>⟨few rfl,λp2 hp2=>?_⟩))
   have S2:Same H4 (upd H4 p2 (.tup [.str "put", .str x])):=Same.new hp2
   refine vr rfl (vr rfl (zcQ (hH4.new hp2) (by omega) (((hm3.same S1).keep k4 nm).same S2) nm λy H5 hy hH5 k5=>⟨few rfl,λp3 hp3=>⟨few rfl,λp4 hp4=>?_⟩⟩))
   have S3:Same H5 (upd H5 p3 (.tup [.str "strike", .str y])):=Same.new hp3
   have S4:Same (upd H5 p3 (.tup [.str "strike", .str y])) (upd (upd H5 p3 (.tup [.str "strike", .str y])) p4 (.lst [.ref p1, .ref p2, .ref p3])):=Same.new hp4
   have hH6:=(hH5.new (o:= .tup [.str "strike", .str y]) hp3).new (o:= .lst [.ref p1, .ref p2, .ref p3]) hp4
   refine⟨a,_,hH6,by omega, .inl (ex2 p4 _ ⟨rfl,Hand.ne (hH5.new hp3) hp4,SqL.of zb,(by decide:0<3),(by decide:3<1000),λv H7 hv hH7 k7=>?_⟩)⟩
   have M2:Mono (upd H3 p1 (.tup [.str "keep"])) H4:=Mono.keep k4 (hH3.new hp1) hH4
   have M3:=Mono.keep k5 (hH4.new hp2) hH5
   have M5:=Mono.keep k7 hH6 hH7
   have M45:=((Mono.of S3).trans (Mono.of S4)).trans M5
   have k37:Keep a H3 H7:=(((((Keep.of S1).trans k4).trans (Keep.of S2)).trans k5).trans ((Keep.of S3).trans (Keep.of S4))).trans k7
   obtain⟨da,ra,haa,hao⟩:∃da,Rep H7 v da/\zcf da=true/\zaa O da=true:=by
    simp only[List.mem_cons,List.not_mem_nil,or_false] at hv
    rcases hv with rfl|rfl|rfl
    ·exact ⟨.tup [.str "keep"],Rep.mono (.mk1 zb (.str _ (by decide))) (((M2.trans (.of S2)).trans M3).trans M45),by decide +kernel,rfl⟩
    ·exact ⟨.tup [.str "put", .str x],Rep.mono (.mk2 zb (.str _ (by decide)) (.str _ (zau hx.1))) (M3.trans M45),zmB hx.1 (.inl rfl),zbV hx.2⟩
    ·exact ⟨.tup [.str "strike", .str y],Rep.mono (.mk2 zb (.str _ (by decide)) (.str _ (zau hy.1))) ((Mono.of S4).trans M5),zmB hy.1 (.inr rfl),zbV hy.2⟩
   have hz7:=k37 _ _ nls hz
   refine vr rfl ⟨.inl ⟨rfl,_,SqL.of hz7⟩,vr rfl (vr rfl (vr rfl (ex4 a h m _ (ex2 true O ⟨rfl,hH7,by omega,hh3.keep k37 nh,hm3.keep k37 nm,nh,nm,λvc dc H8 rc lc hc hco hto hH8 k8=>(vr rfl ⟨few rfl,λp9 hp9=>?_⟩)⟩))))⟩
   have m38:Mono H3 H8:=(Mono.keep k37 hH3 hH7).trans (.keep k8 hH7 hH8)
   have hz9:upd H8 p9 (.tup [vc,v]) ls=some (.lst zs):=by rw[zh (ze (k8 _ _ nls hz7) hp9)];exact k8 _ _ nls hz7
   refine ex3 ls _ _ ⟨rfl,rfl,hz9,zp (by omega),(ex2 _ _ rfl),⟨_,ds ++ [.tup [.tup dc,da]],zb,?_,?_,?_⟩,?_,?_⟩
   ·exact RepL.mono (.append ((rz.mono m38).mono (.new hp9)) (.cons (.mk2 zb (rc.mono (.new hp9)) ((ra.mono (.keep k8 hH7 hH8)).mono (.new hp9))) .nil)) (.lset hz9)
   ·rw[List.length_append,hdl];rfl
   ·intro d hd
    rcases List.mem_append.mp hd with hd|hd
    ·exact hds d hd
    ·rw[List.mem_singleton.mp hd];exact Bool.and_eq_true _ _▸⟨zoo lc hc haa,zgv hco hao⟩
   ·exact ((hH8.new hp9).updNe nls).mono (by rw[show((i+1:Nat):Int)=(i:Int)+1 by omega];omega)
   ·exact Keep.updNew ((k3.trans (k37.trans k8)).trans (Keep.new hp9)) hls
  ·rintro σ' H3 ⟨⟨o1,o2,rfl⟩,⟨zs,ds,hz,rz,hdl,hds⟩,hH3,k3⟩
   refine vr rfl (ex2 ls zs ⟨rfl, .inl ⟨SqL.of hz,λp hp=>?_⟩⟩)
   exact q _ ds _ (.mkL zb (by omega) (rz.mono (.new hp))) (by omega) hds ((hH3.new hp).mono (by omega)) (k3.trans (Keep.new hp))
def TD(H:Hp)(d:Addr)(xs:List Str)(c:Nat):Prop:=∃(kvs:List (List Key×V)) (ps:List (Str×Str)),H d=some (.dT kvs)/\kvs.map (·.1)=ps.map zf4/\ps.length<=c/\∀p∈ps,p.1∈xs/\p.2∈xs/\ltS p.1 p.2=true
theorem putK_keys{kvs:List (List Key×V)}{k:List Key}{v:V}:(zO kvs k v).map (·.1)=kvs.map (·.1)\/(zO kvs k v).map (·.1)=kvs.map (·.1)++ [k]:=by
 unfold zO
 by_cases h:(kvs.any λkv=>decide (kv.1=k))=true
 ·rw[if_pos h]
  refine .inl ?_
  rw[List.map_map]
  apply List.map_congr_left
  intro x _
  show(if x.1=k then(x.1,v)else x).1=x.1
  split<;>rfl
 ·rw[if_neg h,List.map_append]
  exact .inr rfl
theorem TD.put{H:Hp}{d:Addr}{xs:List Str}{c:Nat}{p:Str×Str}{v:V}{kvs:List (List Key×V)}{ps:List (Str×Str)}(h1:kvs.map (·.1)=ps.map zf4)(h2:ps.length<=c)(h3:∀p∈ps,p.1∈xs/\p.2∈xs/\ltS p.1 p.2=true)(hp:p.1∈xs/\p.2∈xs/\ltS p.1 p.2=true):
 TD (upd H d (.dT (zO kvs (zf4 p) v))) d xs (c+1):=by
 rcases putK_keys (kvs:=kvs) (k:=zf4 p) (v:=v)with e|e
 ·exact ⟨_,ps,zb,e.trans h1,by omega,h3⟩
 ·refine ⟨_,ps ++ [p],zb,by rw[e,h1,List.map_append];rfl,by rw[List.length_append];show ps.length+1<=_;omega,λq hq=>?_⟩
  rcases List.mem_append.mp hq with hq|hq
  ·exact h3 q hq
  ·rw[List.mem_singleton.mp hq];exact hp
theorem TD.keep{H H':Hp}{a d:Addr}{xs:List Str}{c:Nat}(h:TD H d xs c)(k:Keep a H H')(n:d≠a):TD H' d xs c:=let⟨kvs,ps,e,r⟩:=h;⟨kvs,ps,k _ _ n e,r⟩
theorem TD.mono{H:Hp}{d:Addr}{xs:List Str}{c c':Nat}(h:TD H d xs c)(l:c<=c'):TD H d xs c':=let⟨kvs,ps,e,f,g,r⟩:=h;⟨kvs,ps,e,f,Nat.le_trans g l,r⟩
theorem zl1{x y:Str}(h:x≠y):ltS (if ltS y x=true then y else x) (if ltS x y=true then y else x)=true:=by
 cases e:ltS x y with
 |true=>rw[ze2 e];simp only[Bool.false_eq_true,if_false,if_true];exact e
 |false=>
  have:=zc0 h e
  rw[this];simp only[Bool.false_eq_true,if_false,if_true];exact this
noncomputable def zjP:Sp:=λvs H Q _=>∃(a h:Addr) (n:Int) (more:Nat) (xs:List Str),vs=[.ref a, .ref h, .int more]/\Hand H a n/\n<2^38/\H h=some (.lst (xs.map V.str))/\h≠a/\1<=xs.length/\xs.length<=10/\xs.Nodup/\(∀x∈xs,zi x=true)/\more<=30/\
 ∀(v:V) (ps:List (Str×Str)) (H':Hp),Rep H' v (.tup (ps.map pairD))->ps.Pairwise (λa b=>ltP a b=true)->(∀p∈ps,p.1∈xs/\p.2∈xs/\ltS p.1 p.2=true)->Hand H' a (n+100)->Keep a H H'->Q v H'
theorem zn5(Y:Ev K mg):FnOk P w K mg base CX0 3 Y.a__law_ties Y.d__law_ties zbR zjP:=by
 have G__law_take:FnOk P w K mg base CX0 1 Y.a__law_take Y.d__law_take zN zcA:=zb8 Y
 have G__law_pick:FnOk P w K mg base CX0 2 Y.a__law_pick Y.d__law_pick zJ (zbE K):=zbM Y
 refine Y._law_ties.fn.okQ c__law_ties (λvs H Q E h=>?_) (λcdv A outer s H vs Q E hr h=>?_)
 ·obtain ⟨a,h,n,more,xs,rfl,_⟩:=h;rfl
 ·obtain ⟨a,h,n,more,xs,rfl,hH,hn,hh,nh,x1,x10,hnd,hxn,hmore,q⟩:=h
  refine⟨_,(zg (zw 3 c__law_ties.nd znC)
   (zg (zb1 PassesOwn.never rfl (zmH Y.range (za zf (za (zF zam Y.len zch (za (qv 1) zc)) zc))) (zr 4 c__law_ties.nd) (zg (zoT 5 6 c__law_ties.nd (za (zP ix_list (qv 1) (qv 4)) (za (zP ix_list (qv 1) (zk G__law_take (hr.mono (by decide)) Y._law_take.mg Y._law_take.kp Y._law_take.b .nil zm (za (qv 0) (za (qv 4) zc)))) zc)))
   (zj (zab (zA zjQ (zk G__law_take (hr.mono (by decide)) Y._law_take.mg Y._law_take.kp Y._law_take.b .nil zm (za (qv 0) (za zf zc))) zf) (zj (zcm (hu1 hr) (qv 3) (zx (za (zF (zfV rfl) Y.min zen (za (qv 5) (za (qv 6) zc))) (za (zF (zfg rfl) Y.max zg8 (za (qv 5) (za (qv 6) zc))) zc))) zeZ)) zM))))
   (zg (zb1 PassesOwn.never rfl (zdc Y.range (za (qv 2) zc)) (zr 4 c__law_ties.nd) (zg (zoT 5 6 c__law_ties.nd (za (zk G__law_pick (hr.mono (by decide)) Y._law_pick.mg Y._law_pick.kp Y._law_pick.b .nil zm (za (qv 0) (za (qv 1) zc))) (za (zk G__law_pick (hr.mono (by decide)) Y._law_pick.mg Y._law_pick.kp Y._law_pick.b .nil zm (za (qv 0) (za (qv 1) zc))) zc)))
   (zj (zab (zA zib (qv 5) (qv 6)) (zj (zcm (hu1 hr) (qv 3) (zx (za (zF (zfV rfl) Y.min zen (za (qv 5) (za (qv 6) zc))) (za (zF (zfg rfl) Y.max zg8 (za (qv 5) (za (qv 6) zc))) zc))) zeZ)) zM))))
   (zj (zz (zah zV Y.tuple zbz (za (zF (zg3 rfl) Y.sorted zcL (za (qv 3) zc)) zc))))))),?_⟩
  intro d hd
  have nd:=hH.ne hd
  have ndh:d≠h:=λz=>by rw[z,hh] at hd;cases hd
  have hh0:upd H d (.dT []) h=some (.lst (xs.map V.str)):=by rw[zh (Ne.symm ndh)];exact hh
  refine vr rfl (.inl (ex2 h _ ⟨rfl, .inl (SqL.of hh0),ex2 1 _ ⟨rfl,⟨by decide,by decide,by omega,by rw[List.length_map];omega⟩,?_⟩⟩))
  have hN:(((xs.map V.str).length:Int) -1).toNat=xs.length -1:=by rw[List.length_map];omega
  rw[hN]
  refine zaP zcD (λi σ' H'=>(∃o1 o2 o3,σ'=[some (.ref a),some (.ref h),some (.int more),some (.ref d),o1,o2,o3])/\TD H' d xs i/\Hand H' a (n+2*i)/\Keep a H H') ?_ (λ_ _ _ _=>trivial) ?_ ?_
  ·exact ⟨(ex3 _ _ _ rfl),⟨[],[],zb,rfl,Nat.le_refl _,λ_ z=>nomatch z⟩,(hH.new hd).mono (by omega),Keep.new hd⟩
  ·rintro i y σ' H1 hi rfl ⟨⟨o1,o2,o3,rfl⟩,td,hH1,k1⟩
   have hh1:=k1 _ _ nh hh
   have g1:atI (xs.map V.str) (1+(i:Int))=some (.str (xs.getD (i+1) "")):=by
    have hi1:i+1<xs.length:=by omega
    rw[Int.add_comm]
    exact zI (j:=i+1) (by simp[hi1,List.getD])
   refine vr rfl (vr rfl (ixL hh1 g1 (vr rfl (vr rfl (vr rfl (ex3 a _ _ ⟨rfl,hH1,by omega,by omega,by omega,λt' H2 t0 t1 hH2 k2=>?_⟩))))))
   obtain⟨t,rfl⟩:∃t:Nat,t'=(t:Int):=⟨t'.toNat,by omega⟩
   have hh2:=k2 _ _ nh hh1
   have ht:t<xs.length:=by omega
   have g2:atI (xs.map V.str) (t:Int)=some (.str (xs.getD t "")):=zI (by simp[ht,List.getD])
   have hne:xs.getD (i+1) ""≠xs.getD t "":=by
    have hi1:i+1<xs.length:=by omega
    have:=zmx hnd hi1 ht (by omega)
    simpa[List.getD,hi1,ht] using this
   have mx1:xs.getD (i+1) ""∈xs:=by have hi1:i+1<xs.length:=by omega
                                    simp[List.getD,hi1]
   have mx2:xs.getD t ""∈xs:=by simp[List.getD,ht]
   generalize xs.getD (i+1) ""=x at *
   generalize xs.getD t ""=y at *
   refine ixL hh2 g2 (ex2 _ _ ⟨rfl,?_⟩)
   have td2:=td.keep k2 nd
   refine vr rfl (ex3 a 9 _ ⟨rfl,hH2,by omega,by decide,by decide,λu H3 u0 u9 hH3 k3=>(ex2 _ _ ⟨rfl,rfl,vr rfl (zcG (λ_=>?_) (λ_=>?_))⟩)⟩)
   ·obtain ⟨kvs,ps,hkv,hkk,hpl,hpg⟩:=td2.keep k3 nd
    refine vr rfl (vr rfl (vr rfl (ex2 x y ⟨rfl,vr rfl (vr rfl (ex2 x y ⟨rfl,few rfl,λp hp=>?_⟩))⟩)))
    have hkv4:upd H3 p (.tup [.str (if ltS y x=true then y else x), .str (if ltS x y=true then y else x)]) d=some (.dT kvs):=by rw[zh (ze hkv hp)];exact hkv
    have hlk:kvs.length=ps.length:=by have:=congrArg List.length hkk;simpa using this
    refine ex2 d _ ⟨rfl,DPut.t (k:=zf4 (if ltS y x=true then y else x,if ltS x y=true then y else x)) hkv4 zb (zp (by omega)),(ex3 _ _ _ rfl),TD.put hkk hpl hpg ⟨?_,?_,zl1 hne⟩,?_,?_⟩
    ·dsimp only;split<;>assumption
    ·dsimp only;split<;>assumption
    ·exact ((hH3.new hp).updNe nd).mono (by rw[show((i+1:Nat):Int)=(i:Int)+1 by omega];omega)
    ·exact Keep.updNew (((k1.trans k2).trans k3).trans (Keep.new hp)) hd
   ·exact ⟨(ex3 _ _ _ rfl),(td2.keep k3 nd).mono (by omega),hH3.mono (by rw[show((i+1:Nat):Int)=(i:Int)+1 by omega];omega),(k1.trans k2).trans k3⟩
  ·rintro σ' H1 ⟨⟨o1,o2,o3,rfl⟩,td,hH1,k1⟩
   refine vr rfl ⟨more,rfl,by omega,by omega,?_⟩
   rw[Int.toNat_natCast]
   refine zaP zcD (λi σ' H'=>(∃o1 o2 o3,σ'=[some (.ref a),some (.ref h),some (.int more),some (.ref d),o1,o2,o3])/\TD H' d xs (9+i)/\Hand H' a (n+20+2*i)/\Keep a H H') ?_ (λ_ _ _ _=>trivial) ?_ ?_
   ·exact ⟨(ex3 _ _ _ rfl),td.mono (by omega),hH1.mono (by omega),k1⟩
   ·rintro i y σ' H2 hi rfl ⟨⟨o1,o2,o3,rfl⟩,td2,hH2,k2⟩
    have pk:∀{H0:Hp} {n0:Int} {R:VK},Hand H0 a n0->n0<2^40->H0 h=some (.lst (xs.map V.str))->(∀x H',x∈xs->Hand H' a (n0+1)->Keep a H0 H'->R (.str x) H')->zbE K [.ref a, .ref h] H0 R E0:=λhH0 hn0 e0 qq=>
     ⟨a,_,hH0,hn0, .inl ⟨h,_,rfl,nh,SqL.of e0,by rw[List.length_map];omega,by rw[List.length_map];omega,λv H' hv hH' k'=>by
       obtain⟨x,hx,rfl⟩:=List.mem_map.mp hv
       exact qq x H' hx hH' k'⟩⟩
    have hh2:=k2 _ _ nh hh
    refine vr rfl (vr rfl (pk hH2 (by omega) hh2 λx H3 hx hH3 k3=>(vr rfl (vr rfl (pk hH3 (by omega) (k3 _ _ nh hh2) λy H4 hy hH4 k4=>(ex2 _ _ ⟨rfl,vr rfl (vr rfl ⟨rfl,vr rfl (zcG (λhc=>?_) (λ_=>?_))⟩)⟩))))))
    ·have hne:x≠y:=λz=>by rw[z] at hc;simp at hc
     obtain⟨kvs,ps,hkv,hkk,hpl,hpg⟩:=(td2.keep k3 nd).keep k4 nd
     refine vr rfl (vr rfl (vr rfl (ex2 x y ⟨rfl,vr rfl (vr rfl (ex2 x y ⟨rfl,few rfl,λp hp=>?_⟩))⟩)))
     have hkv4:upd H4 p (.tup [.str (if ltS y x=true then y else x), .str (if ltS x y=true then y else x)]) d=some (.dT kvs):=by rw[zh (ze hkv hp)];exact hkv
     have hlk:kvs.length=ps.length:=by have:=congrArg List.length hkk;simpa using this
     refine ex2 d _ ⟨rfl,DPut.t (k:=zf4 (if ltS y x=true then y else x,if ltS x y=true then y else x)) hkv4 zb (zp (by omega)),(ex3 _ _ _ rfl),TD.put hkk hpl hpg ⟨?_,?_,zl1 hne⟩,?_,?_⟩
     ·dsimp only;split<;>assumption
     ·dsimp only;split<;>assumption
     ·exact ((hH4.new hp).updNe nd).mono (by rw[show((i+1:Nat):Int)=(i:Int)+1 by omega];omega)
     ·exact Keep.updNew (((k2.trans k3).trans k4).trans (Keep.new hp)) hd
    ·exact ⟨(ex3 _ _ _ rfl),((td2.keep k3 nd).keep k4 nd).mono (by omega),hH4.mono (by rw[show((i+1:Nat):Int)=(i:Int)+1 by omega];omega),(k2.trans k3).trans k4⟩
   ·rintro σ' H2 ⟨⟨o1,o2,o3,rfl⟩,⟨kvs,ps,hkv,hkk,hpl,hpg⟩,hH2,k2⟩
    refine vr rfl (ex3 d kvs ps ⟨rfl,hkv,hkk,by omega,λps' vs l hperm hpw hpa hl=>(ex2 l vs ⟨rfl, .inl ⟨SqL.of zb,λp hp=>?_⟩⟩)⟩)
    have S:Same H2 (upd (upd H2 l (.lst vs)) p (.tup vs)):=(Same.new hl).trans (Same.new hp)
    refine q _ ps' _ (.mkL zb (by rw[List.length_map,hperm.length_eq];omega) ⟨by rw[List.length_map];exact hpa.1,λi v dd e1 e2=>?_⟩) hpw (λp hp=>hpg p (hperm.mem_iff.mp hp)) ((hH2.same S).mono (by omega)) (k2.trans (Keep.of S))
    rw[List.getElem?_map] at e2
    cases e3:ps'[i]? with
    |none=>rw[e3] at e2;cases e2
    |some pr=>
     rw[e3] at e2
     cases e2
     obtain⟨b,rfl,hb⟩:=hpa.2 i v pr e1 e3
     have hpr:=hpg pr (hperm.mem_iff.mp (List.mem_of_getElem? e3))
     exact .mk2 (S _ _ hb) (.str _ (zau (hxn _ hpr.1))) (.str _ (zau (hxn _ hpr.2.1)))
end
section
variable{P:Program}{w:World}{K:PySem.W.Frag}{mg:Str->Option Value}{base:Heap}
noncomputable def zml:Sp:=λvs H Q _=>∃(a:Addr) (n:Int),vs=[.ref a]/\Hand H a n/\n<2^36/\∀(v:V) (g:Str) (hs:List Str) (ps:List (Str×Str)) (lks hds:List D) (H':Hp),Rep H' v (zaf g hs ps lks hds)->TownOk g hs ps lks hds->(∀x∈hs,x≠"nowhere")->(∃O,Pool hs lks hds O)->(∀d∈lks,∃ds,d= .tup ds/\ds.length<=12)->(∀d∈hds,∃ds,d= .tup ds/\ds.length<=12)->Hand H' a (n+9000)->Keep a H H'->Q v H'
theorem zf8{d:D}{ds:List D}(e:d= .tup ds)(h:ds.length<=12){O:List Str}(h2:∀d∈ds,zhu O d=true):zbQ d=true/\zcu O d=true/\∃es,d= .tup es/\es.length<=12:=by
 subst e
 refine⟨?_,List.all_eq_true.mpr λd hd=>((Bool.and_eq_true _ _).mp (h2 d hd)).2,ds,rfl,h⟩
 show(decide (ds.length<=90)&&ds.all zS)=true
 rw[decide_eq_true (by omega),List.all_eq_true.mpr λd hd=>((Bool.and_eq_true _ _).mp (h2 d hd)).1];rfl
theorem zi0{d:D}{ds:List D}(e:d= .tup ds)(h:ds.length<=12){O:List Str}(h2:∀d∈ds,zho O d=true):zcb d=true/\zcu O d=true/\∃es,d= .tup es/\es.length<=12:=by
 subst e
 refine⟨?_,List.all_eq_true.mpr λd hd=>((Bool.and_eq_true _ _).mp (h2 d hd)).2,ds,rfl,h⟩
 show(decide (ds.length<=90)&&ds.all zb6)=true
 rw[decide_eq_true (by omega),List.all_eq_true.mpr λd hd=>((Bool.and_eq_true _ _).mp (h2 d hd)).1];rfl
theorem znA(Y:Ev K mg):FnOk P w K mg base CX0 6 Y.a__law_town Y.d__law_town zbS zml:=by
 have G__law_take:FnOk P w K mg base CX0 1 Y.a__law_take Y.d__law_take zN zcA:=zb8 Y
 have G__law_pick:FnOk P w K mg base CX0 2 Y.a__law_pick Y.d__law_pick zJ (zbE K):=zbM Y
 have G__law_names:FnOk P w K mg base CX0 3 Y.a__law_names Y.d__law_names zbC zit:=zkD Y
 have G__law_ties:FnOk P w K mg base CX0 3 Y.a__law_ties Y.d__law_ties zbR zjP:=zn5 Y
 have G__law_likings:FnOk P w K mg base CX0 5 Y.a__law_likings Y.d__law_likings zaS (zfd zhu):=zji Y
 have G__law_hands:FnOk P w K mg base CX0 5 Y.a__law_hands Y.d__law_hands zby (zfd zho):=zmz Y
 refine Y._law_town.fn.okQ c__law_town (λvs H Q E h=>?_) (λcdv A outer s H vs Q E hr h=>?_)
 ·obtain ⟨a,n,rfl,_⟩:=h;rfl
 ·obtain ⟨a,n,rfl,hH,hn,q⟩:=h
  refine⟨_,(zg (zw 1 c__law_town.nd (zP ix_list (zcq (za zf (za zf (za zf (za zf (za zf (za zf (za zf (za (zE zY zf (zk G__law_take (hr.mono (by decide)) Y._law_take.mg Y._law_take.kp Y._law_take.b .nil zm (za (qc 0) (za zf zc)))) zc))))))))) (zk G__law_take (hr.mono (by decide)) Y._law_take.mg Y._law_take.kp Y._law_take.b .nil zm (za (qc 0) (za zf zc)))))
   (zg (zeq 2 c__law_town.nd (zk G__law_names (hr.mono (by decide)) Y._law_names.mg Y._law_names.kp Y._law_names.b .nil zm (za (qc 0) (za (zE zY (qv 1) zf) zc))))
   (zg (zcw (zx (za (zm7 zj6 (qc 2) zhz (zhs (qv 1))) (za (zm7 zj6 (qc 2) (zhs (qv 1)) zhz) zc))) (zcV 2 rfl (zy (zr 3 c__law_town.nd) (zy (zkh 4 c__law_town.nd) zbb))))
   (zg (zw 5 c__law_town.nd (zk G__law_ties (hr.mono (by decide)) Y._law_ties.mg Y._law_ties.kp Y._law_ties.b .nil zm (za (qc 0) (za (qv 3) (za (zk G__law_take (hr.mono (by decide)) Y._law_take.mg Y._law_take.kp Y._law_take.b .nil zm (za (qc 0) (za zf zc))) zc)))))
   (zg (zw 6 c__law_town.nd (zk G__law_pick (hr.mono (by decide)) Y._law_pick.mg Y._law_pick.kp Y._law_pick.b .nil zm (za (qc 0) (za (qv 3) zc))))
   (zg (zw 7 c__law_town.nd (zah zV Y.tuple zbz (za (zF zg4 Y.sorted zcL (za (qv 3) zc)) zc)))
   (zg (zw 8 c__law_town.nd (zah zV Y.tuple zbz (za (zdR (src:=[none,some 0,some 4,some 2]) o__law_town_1 rfl rfl (zdj (qv 7)) (λ_ _ _ _ _=>(zr 0 o__law_town_1.nd)) (λ_ _ _ _ _=>zgI) (λ_ _ _ _ _=>(zk G__law_likings (hr.mono (by decide)) Y._law_likings.mg Y._law_likings.kp Y._law_likings.b .nil zm (za (qc 1) (za (qc 3) (za (qc 2) zc)))))) zc)))
   (zg (zw 9 c__law_town.nd (zah zV Y.tuple zbz (za (zdR (src:=[none,some 0,some 4,some 2]) o__law_town_2 rfl rfl (zdj (qv 7)) (λ_ _ _ _ _=>(zr 0 o__law_town_2.nd)) (λ_ _ _ _ _=>zgI) (λ_ _ _ _ _=>(zk G__law_hands (hr.mono (by decide)) Y._law_hands.mg Y._law_hands.kp Y._law_hands.b .nil zm (za (qc 1) (za (qc 3) (za (qc 2) zc)))))) zc)))
   (zj (zz (zx (za (qv 6) (za (qv 7) (za (qv 5) (za (qv 8) (za (qv 9) zc)))))))))))))))),?_⟩
  refine vr rfl (ex3 a 5 n ⟨rfl,hH,by omega,by decide,by decide,λt H1 t0 t5 hH1 k1=>(ex2 _ _ ⟨rfl,rfl,few rfl,λpl hpl=>(vr rfl (ex3 a 8 (n+1) ⟨rfl,hH1.new hpl,by omega,by decide,by decide,λu H2 u0 u8 hH2 k2=>?_⟩))⟩)⟩)
  have hpl2:=k2 _ _ (hH1.ne hpl) (zb (o:= .lst [V.int 2,V.int 3,V.int 3,V.int 4,V.int 4,V.int 5,V.int 1,V.int (6+t)]))
  obtain⟨v,ev,hv⟩:=zdA (xs:=[V.int 2,V.int 3,V.int 3,V.int 4,V.int 4,V.int 5,V.int 1,V.int (6+t)]) u0 u8
  obtain⟨m,rfl,m1,m10⟩:∃m:Nat,v= .int (m:Int)/\1<=m/\m<=10:=by
   simp only[List.mem_cons,List.not_mem_nil,or_false] at hv
   rcases hv with rfl|rfl|rfl|rfl|rfl|rfl|rfl|rfl
   ·exact ⟨2,rfl,by decide,by decide⟩
   ·exact ⟨3,rfl,by decide,by decide⟩
   ·exact ⟨3,rfl,by decide,by decide⟩
   ·exact ⟨4,rfl,by decide,by decide⟩
   ·exact ⟨4,rfl,by decide,by decide⟩
   ·exact ⟨5,rfl,by decide,by decide⟩
   ·exact ⟨1,rfl,by decide,by decide⟩
   ·exact ⟨(6+t).toNat,by congr 1;omega,by omega,by omega⟩
  have kp2:Keep a H H2:=(k1.trans (Keep.new hpl)).trans k2
  refine ixL hpl2 ev ?_
  refine vr rfl (vr rfl (ex2 _ _ ⟨rfl,rfl,a,n+1+1,m+3,by push_cast;rfl,hH2,by omega,by omega,by omega,λln xs H3 hln hl3 hlen hxn hxd hxw hH3 k3=>?_⟩))
  have nln:ln≠a:=hH2.ne hln
  refine vr rfl (vr rfl (vr rfl (ex2 ln _ ⟨rfl,SqL.of hl3,λp1 hp1=>?_⟩)))
  have S1:Same H3 (upd H3 p1 (.lst (zcp (xs.map V.str) none (some (m:Int))))):=Same.new hp1
  refine vr rfl (vr rfl (vr rfl (ex2 ln _ ⟨rfl,SqL.of (S1 _ _ hl3),λp2 hp2=>⟨few rfl,λp3 hp3=>?_⟩⟩)))
  have S2:=Same.new (o:= .lst (zcp (xs.map V.str) (some (m:Int)) none)) hp2
  have S3:=Same.new (o:= .tup [V.ref p1,V.ref p2]) hp3
  have S13:=(S1.trans S2).trans S3
  have hp1':=S3 _ _ (S2 _ _ (zb (H:=H3) (a:=p1) (o:= .lst (zcp (xs.map V.str) none (some (m:Int))))))
  have hp2':=S3 _ _ (zb (H:=upd H3 p1 (.lst (zcp (xs.map V.str) none (some (m:Int))))) (a:=p2) (o:= .lst (zcp (xs.map V.str) (some (m:Int)) none)))
  refine ex2 p3 _ ⟨rfl, .inl (.inl zb),rfl,ex2 _ _ ⟨rfl,ex2 _ _ ⟨rfl,rfl,?_⟩⟩⟩
  have hl4:=S13 _ _ hl3
  have hH4:=hH3.same S13
  have np1:p1≠a:=hH3.ne hp1
  have np2:p2≠a:=(hH3.same S1).ne hp2
  have kp4:=(kp2.trans k3).trans (Keep.of S13)
  generalize (upd (upd (upd H3 p1 (HO.lst (zcp (xs.map V.str) none (some (m:Int))))) p2 (HO.lst (zcp (xs.map V.str) (some (m:Int)) none))) p3 (HO.tup [V.ref p1,V.ref p2]))=H4 at *
  rw[zhQ,←List.map_take] at hp1'
  rw[zic,←List.map_drop] at hp2'
  have hth:(xs.take m).length=m:=by rw[List.length_take];omega
  have htn:∀x∈xs.take m,zi x=true:=λx hx=>hxn x (List.mem_of_mem_take hx)
  have htw:∀x∈xs.take m,x≠"nowhere":=λx hx=>hxw x (List.mem_of_mem_take hx)
  have htd:(xs.take m).Nodup:=hxd.sublist (List.take_sublist m xs)
  have hdn:∀x∈xs.drop m,zi x=true:=λx hx=>hxn x (List.mem_of_mem_drop hx)
  have hdl:(xs.drop m).length=3:=by rw[List.length_drop];omega
  have hto:∀x∈xs.take m,x∈xs:=λx hx=>List.mem_of_mem_take hx
  have hdo:∀x∈xs.drop m,x∈xs:=λx hx=>List.mem_of_mem_drop hx
  generalize xs.take m=hs at *
  generalize xs.drop m=ms at *
  have NLn:NL xs H4 ln:=⟨xs,hl4,by omega,by omega,λx hx=>⟨hxn x hx,hx⟩⟩
  have NLm:NL xs H4 p2:=⟨ms,hp2',by omega,by omega,λx hx=>⟨hdn x hx,hdo x hx⟩⟩
  refine vr rfl (vr rfl (vr rfl (ex3 a 5 _ ⟨rfl,hH4,by omega,by decide,by decide,λmo' H5 mo0 mo5 hH5 k45=>?_⟩)))
  obtain⟨mo,rfl⟩:∃mo:Nat,mo'=(mo:Int):=⟨mo'.toNat,by omega⟩
  have mo30:mo<=30:=by omega
  have hp15:=k45 _ _ np1 hp1'
  refine ex4 a p1 _ mo ⟨hs,rfl,hH5,by omega,hp15,np1,by omega,by omega,htd,htn,mo30,λvt ps H6 rt hpw hpg hH6 k6=>?_⟩
  have hp16:=k6 _ _ np1 hp15
  refine vr rfl (vr rfl ⟨a,_,hH6,by omega, .inl (ex2 p1 _ ⟨rfl,np1,SqL.of hp16,by rw[List.length_map];omega,by rw[List.length_map];omega,λvg H7 hvg hH7 k7=>?_⟩)⟩)
  obtain⟨g,hg,rfl⟩:=List.mem_map.mp hvg
  have hp17:=k7 _ _ np1 hp16
  have rt7:=rt.mono (.keep k7 hH6 hH7)
  refine vr rfl (ex2 p1 hs ⟨rfl,SqL.of hp17,by omega,htd,λhs' l hperm hrise hl=>(ex2 l _ ⟨rfl, .inl ⟨SqL.of zb,λpr hpr=>?_⟩⟩)⟩)
  have S8:Same H7 (upd (upd H7 l (.lst (hs'.map V.str))) pr (.tup (hs'.map V.str))):=(Same.new hl).trans (Same.new hpr)
  have hpr8:(upd (upd H7 l (.lst (hs'.map V.str))) pr (.tup (hs'.map V.str))) pr=some (.tup (hs'.map V.str)):=zb
  have hH8:=hH7.same S8
  have rt8:=rt7.same S8
  have npr:pr≠a:=(hH7.new hl).ne hpr
  have k48:Keep a H4 (upd (upd H7 l (.lst (hs'.map V.str))) pr (.tup (hs'.map V.str))):=((k45.trans k6).trans k7).trans (Keep.of S8)
  have hlen':hs'.length=m:=by rw[hperm.length_eq];exact hth
  generalize (upd (upd H7 l (HO.lst (hs'.map V.str))) pr (HO.tup (hs'.map V.str)))=H8 at *
  have NLn8:=NLn.keep k48 nln
  have NLm8:=NLm.keep k48 np2
  refine vr rfl ⟨pr,rfl,⟨_, .inl (.inl hpr8)⟩,?_⟩
  refine zeL (a:=a) (m:=n+300) (c:=400) (Pd:=λ_ d=>zbQ d=true/\zcu xs d=true/\∃es,d= .tup es/\es.length<=12) (σr:=[some (.ref a),some (.ref p2),some (.ref ln)]) (zcj (K:=K) (xs:=hs'.map V.str)) (λH' k=> .inl (.inl (k _ _ npr hpr8))) rfl (hH8.mono (by omega)) (by rw[List.length_map];omega) (by decide) (λi x H9 Q1 hi hH9 k9 q1=>?_) (λl1 vl lks H9 hl1 hl1' rl hll pl9 hH9 k9=>?_)
  ·rw[List.length_map] at hi
   exact vr rfl (vr rfl (vr rfl (ex4 a ln p2 _ ⟨xs,rfl,hH9,by omega,NLn8.keep k9 nln,NLm8.keep k9 np2,nln,np2,λv ds H10 rv hds hg10 hH10 k10=>q1 v _ H10 rv (zf8 rfl hds hg10) hH10 k10⟩)))
  refine ex2 l1 vl ⟨rfl, .inl ⟨SqL.of hl1',λpA hpA=>?_⟩⟩
  rw[List.length_map] at hll hH9
  have SA:=Same.new (o:= .tup vl) hpA
  have rlA:Rep (upd H9 pA (.tup vl)) (.ref pA) (.tup lks):= .mkL zb (by omega) (rl.mono (.new hpA))
  have hHA:=hH9.new (o:= .tup vl) hpA
  have k8A:Keep a H8 (upd H9 pA (.tup vl)):=k9.trans (Keep.of SA)
  generalize (upd H9 pA (HO.tup vl))=HA at *
  have hprA:=k8A _ _ npr hpr8
  refine vr rfl ⟨pr,rfl,⟨_, .inl (.inl hprA)⟩,?_⟩
  refine zeL (a:=a) (m:=n+300+400*hs'.length) (c:=400) (Pd:=λ_ d=>zcb d=true/\zcu xs d=true/\∃es,d= .tup es/\es.length<=12) (σr:=[some (.ref a),some (.ref p2),some (.ref ln)]) (zcj (K:=K) (xs:=hs'.map V.str)) (λH' k=> .inl (.inl (k _ _ npr hprA))) rfl hHA (by rw[List.length_map];omega) (by decide) (λi x HB Q1 hi hHB kB q1=>?_) (λl2 va hds HB hl2 hl2' ra hla plB hHB kB=>?_)
  ·rw[List.length_map] at hi
   exact vr rfl (vr rfl (vr rfl (ex4 a ln p2 _ ⟨xs,rfl,hHB,by omega,(NLn8.keep k8A nln).keep kB nln,(NLm8.keep k8A np2).keep kB np2,nln,np2,λv ds H10 rv hds hg10 hH10 k10=>q1 v _ H10 rv (zi0 rfl hds hg10) hH10 k10⟩)))
  refine ex2 l2 va ⟨rfl, .inl ⟨SqL.of hl2',λpB hpB=>?_⟩⟩
  rw[List.length_map] at hla hHB
  have SB:=Same.new (o:= .tup va) hpB
  have mAB:Mono HA (upd HB pB (.tup va)):=(Mono.keep kB hHA hHB).trans (.of SB)
  have raB:Rep (upd HB pB (.tup va)) (.ref pB) (.tup hds):= .mkL zb (by omega) (ra.mono (.new hpB))
  have kAB:Keep a HA (upd HB pB (.tup va)):=kB.trans (Keep.of SB)
  have hHB':=hHB.new (o:= .tup va) hpB
  have rlB:=rlA.mono mAB
  have rtB:=(rt8.mono (.keep k8A hH8 hHA)).mono mAB
  have hprB:=kAB _ _ npr hprA
  refine vr rfl (vr rfl (vr rfl (vr rfl (vr rfl ⟨few rfl,λpT hpT=>?_⟩))))
  have rr:Rep (upd HB pB (.tup va)) (.ref pr) (.tup (hs'.map D.str)):=by
   refine .mkL hprB (by rw[List.length_map];omega) ⟨by rw[List.length_map,List.length_map],λi v d e1 e2=>?_⟩
   rw[List.getElem?_map] at e1 e2
   cases e3:hs'[i]? with
   |none=>rw[e3] at e1;cases e1
   |some x=>
    rw[e3] at e1 e2
    cases e1
    cases e2
    exact .str x (zau (htn x (hperm.mem_iff.mp (List.mem_of_getElem? e3))))
  have ST:=Mono.new (o:= .tup [.str g, .ref pr,vt, .ref pA, .ref pB]) hpT
  have rtown:=Rep.mkL (H:=upd (upd HB pB (.tup va)) pT (.tup [.str g, .ref pr,vt, .ref pA, .ref pB])) (p:=pT) (vs:=[.str g, .ref pr,vt, .ref pA, .ref pB]) (ds:=[.str g, .tup (hs'.map D.str), .tup (ps.map pairD), .tup lks, .tup hds]) zb (Nat.le_of_ble_eq_true rfl) (.cons (.str g (zau (htn g hg))) (.cons (rr.mono ST) (.cons (rtB.mono ST) (.cons (rlB.mono ST) (.cons (raB.mono ST) .nil)))))
  have pl9':=zfx (P:=λd=>zbQ d=true/\zcu xs d=true/\∃es,d= .tup es/\es.length<=12) pl9
  have plB':=zfx (P:=λd=>zcb d=true/\zcu xs d=true/\∃es,d= .tup es/\es.length<=12) plB
  refine q _ g hs' ps lks hds _ rtown ⟨hrise,by omega,by omega,λx hx=>htn x (hperm.mem_iff.mp hx),hperm.mem_iff.mpr hg,hpw,λp hp=>?_,by omega,by omega,λd hd=>(pl9' d hd).1,λd hd=>(plB' d hd).1⟩ (λx hx=>htw x (hperm.mem_iff.mp hx)) ⟨xs,by omega,hxn,λx hx=>hto x (hperm.mem_iff.mp hx),λd hd=>(pl9' d hd).2.1,λd hd=>(plB' d hd).2.1⟩ (λd hd=>(pl9' d hd).2.2) (λd hd=>(plB' d hd).2.2) ((hHB'.new hpT).mono (by omega)) (((kp4.trans k48).trans (k8A.trans kAB)).trans (Keep.new hpT))
  obtain⟨h1,h2,h3⟩:=hpg p hp
  exact⟨hperm.mem_iff.mpr h1,hperm.mem_iff.mpr h2,h3⟩
end
section
variable{P:Program}{w:World}{K:PySem.W.Frag}{mg:Str->Option Value}{base:Heap}
theorem zdF{k:Nat}{c:D->Bool}{g:List Str->List Str->Option Str->D->Bool}(Y:Ev K mg)(G_holds:FnOk P w K mg base CX0 k Y.a_holds Y.d_holds zb7 (zea c g))(c':D->Bool)(g':List Str->List Str->Option Str->D->Bool)
 (hc:∀d,c' d=true->∃x e,d= .tup [.str x,e]) (h1:∀ws ms to x e,c' (.tup [.str x,e])=true->x="not"->c e=true/\(!g ws ms to e)=g' ws ms to (.tup [.str x,e]))
 (h2:∀x e,c' (.tup [.str x,e])=true->¬x="not"->zG (.tup [.str x,e])=true/\∀ws ms to,phB ws ms to x e=g' ws ms to (.tup [.str x,e])):
 FnOk P w K mg base CX0 (k+1) Y.a_holds Y.d_holds zb7 (zea c' g'):=by
 refine Y.holds.fn.okQ c_holds (λvs H Q E h=>?_) (λcdv A outer s H vs Q E hr h=>?_)
 ·obtain ⟨v,d,pw,pm,vt,ws,ms,to,rfl,_⟩:=h;rfl
 ·obtain ⟨v,d,pw,pm,vt,ws,ms,to,rfl,hd,hcd,hpw,hpm,hto,nw,nm,w1,lw,lm,q⟩:=h
  obtain⟨x,e,rfl⟩:=hc d hcd
  obtain⟨p,v0,v1,rfl,hp,r0,r1⟩:=hd.of2
  cases r0 with
  |str _ hx=>
  refine⟨_,(zg (zcw (qv 0) (zcV 2 rfl (zy (zr 4 c_holds.nd) (zy (zr 5 c_holds.nd) zbb))))
   (zg (zab (zA zaO (qv 4) zD) (zj (zz (zqz (zk G_holds hr Y.holds.mg Y.holds.kp Y.holds.b .nil zm (za (qv 5) (za (qv 1) (za (qv 2) (za (qv 3) zc)))))))) zM)
   (zg (zab (zA zaO (qv 4) zD) (zj (zz (zdq zeo (qv 5) (qv 1)))) zM)
   (zg (zab (zA zaO (qv 4) zD) (zj (zz (zqN (zdq zjQ (zF zam Y.len zch (za (qv 1) zc)) zf) (zqw (zdq zaO (zP ix_tup (qv 1) zf) (qv 5)))))) zM)
   (zg (zab (zA zaO (qv 4) zD) (zj (zz (zdq zaO (qv 3) (qv 5)))) zM)
   (zg (zab (zA zaO (qv 4) zD) (zj (zz (zdq zeo (qv 5) (qv 2)))) zM)
   (zj (zz (zdq zoU (zE zpw (zF zam Y.len zch (za (qv 1) zc)) zf) (qv 5)))))))))),?_⟩
  refine vr rfl (ex2 p _ ⟨rfl, .inl (.inl hp),rfl,ex2 _ _ ⟨rfl,ex2 _ _ ⟨rfl,rfl,?_⟩⟩⟩)
  refine vr rfl ⟨rfl,vr rfl (zcG (λel=>?_) (λel=>?_))⟩
  ·obtain ⟨ce,ge⟩:=h1 ws ms to x e hcd (V.str.inj (of_decide_eq_true el))
   refine vr rfl (vr rfl (vr rfl (vr rfl (ex8 v1 e pw pm vt ws ms to ⟨rfl,r1,ce,hpw,hpm,hto,nw,nm,w1,lw,lm,λH' s'=>(vr rfl ?_)⟩))))
   have q:=q H' s'
   rw[←ge] at q
   exact q
  have q:=q H (Same.refl H)
  obtain⟨hpl,ge⟩:=h2 x e hcd λz=>el (decide_eq_true (by rw[z]))
  rw[←ge ws ms to] at q
  have bad:∀{y z:Str},y=z->¬decide (V.str y=V.str z)=true->False:=λe h=>h (by rw[e];exact decide_eq_true rfl)
  refine vr rfl ⟨rfl,vr rfl (zcG (λe1=>?_) (λe1=>?_))⟩
  ·have e1:=V.str.inj (of_decide_eq_true e1)
   subst e1
   rcases zbm hpl with⟨z,_⟩|⟨_,y,rfl,ny⟩
   ·exact absurd z (by decide +kernel)
   cases r1 with|str _ _=>
   rw[zqG,←zeh] at q
   exact vr rfl (vr rfl (ex2 pw _ ⟨rfl, .inr (.inl (.inl hpw)),rfl,zcP,q⟩))
  refine vr rfl ⟨rfl,vr rfl (zcG (λe2=>?_) (λe2=>?_))⟩
  ·have e2:=V.str.inj (of_decide_eq_true e2)
   subst e2
   rcases zbm hpl with⟨z,_⟩|⟨_,y,rfl,ny⟩
   ·exact absurd z (by decide +kernel)
   cases r1 with|str _ _=>
   rw[zna] at q
   refine vr rfl (.inl (ex2 pw _ ⟨rfl, .inr (.inl (.inl hpw)),ex2 _ _ ⟨rfl,rfl,vr rfl ?_⟩⟩))
   match ws,hpw,q with
   |[],hpw,q=>exact zac rfl q
   |[a],hpw,q=>exact zac rfl q
   |a::b::r,hpw,q=>
    refine zaM (decide_eq_true (by rw[List.length_map,List.length_cons,List.length_cons];omega)) ?_
    refine vr rfl (ixT hpw at1 (vr rfl ⟨rfl,?_⟩))
    rw[zbD]
    have eb:decide ((a::b::r)[1]?=some y)=decide (b=y):=by
     rw[Bool.eq_iff_iff,decide_eq_true_iff,decide_eq_true_iff];simp
    rw[eb] at q
    exact q
  refine vr rfl ⟨rfl,vr rfl (zcG (λe3=>?_) (λe3=>?_))⟩
  ·have e3:=V.str.inj (of_decide_eq_true e3)
   subst e3
   rcases zbm hpl with⟨z,_⟩|⟨_,y,rfl,ny⟩
   ·exact absurd z (by decide +kernel)
   cases r1 with|str _ _=>
   obtain⟨hsc,hde⟩:=hto.eq (y:=y)
   rw[zqg,←hde] at q
   exact vr rfl (vr rfl ⟨hsc,q⟩)
  refine vr rfl ⟨rfl,vr rfl (zcG (λe4=>?_) (λe4=>?_))⟩
  ·have e4:=V.str.inj (of_decide_eq_true e4)
   subst e4
   rcases zbm hpl with⟨z,_⟩|⟨_,y,rfl,ny⟩
   ·exact absurd z (by decide +kernel)
   cases r1 with|str _ _=>
   rw[zm9,←zeh] at q
   exact vr rfl (vr rfl (ex2 pm _ ⟨rfl, .inr (.inl (.inl hpm)),rfl,zcP,q⟩))
  rcases zbm hpl with⟨rfl,i,rfl,i0,i9⟩|⟨hn,y,rfl,ny⟩
  ·cases r1 with|int _=>
   rw[zoe] at q
   refine vr rfl (.inl (ex2 pw _ ⟨rfl, .inr (.inl (.inl hpw)),ex2 _ _ ⟨rfl,rfl,vr rfl (ex2 _ _ ⟨rfl,rfl,?_⟩)⟩⟩))
   have eb:decide (i<=((ws.map V.str).length:Int) -1)=decide (i<(ws.length:Int)):=by
    rw[Bool.eq_iff_iff,decide_eq_true_iff,decide_eq_true_iff,List.length_map];omega
   rw[←eb] at q
   exact q
  ·rcases zdX hn with z|z|z|z
   ·exact (bad z e1).elim
   ·exact (bad z e2).elim
   ·exact (bad z e3).elim
   ·exact (bad z e4).elim
theorem zlf(Y:Ev K mg):FnOk P w K mg base CX0 1 Y.a_holds Y.d_holds zb7 (zea (λ_=>false) (λ_ _ _ _=>false)):=by
 refine Y.holds.fn.okQ c_holds (λvs H Q E h=>?_) (λcdv A outer s H vs Q E hr h=>?_)
 ·obtain ⟨v,d,_,_,_,_,_,_,rfl,_,z,_⟩:=h;cases z
 ·obtain ⟨v,d,_,_,_,_,_,_,rfl,_,z,_⟩:=h;cases z
theorem zmP(Y:Ev K mg):FnOk P w K mg base CX0 3 Y.a_holds Y.d_holds zb7 (zea zL zcY):=by
 refine zdF (c:=zG) (g:=zeF) Y ?_ zL zcY zgx ?_ ?_
 ·refine zdF Y (zlf Y) zG zeF zcn ?_ ?_
  ·intro ws ms to x e h z
   subst z
   exact absurd h (by rw[zdv];exact Bool.false_ne_true)
  ·exact λx e h _=>⟨h,λ_ _ _=>rfl⟩
 ·intro ws ms to x e h z
  subst z
  rw[zd9,if_pos rfl] at h
  exact⟨h,by show(!zeF ws ms to e)=(if("not":Str)="not"then !zeF ws ms to e else phB ws ms to "not" e);rw[if_pos rfl]⟩
 ·intro x e h z
  rw[zd9,if_neg z] at h
  exact⟨h,λws ms to=>by show phB ws ms to x e=(if x="not"then !zeF ws ms to e else phB ws ms to x e);rw[if_neg z]⟩
end
section
variable{P:Program}{w:World}{K:PySem.W.Frag}{mg:Str->Option Value}{base:Heap}
theorem zeO(Y:Ev K mg):FnOk P w K mg base CX0 4 Y.a_all_hold Y.d_all_hold zba zjL:=by
 have G_holds:FnOk P w K mg base CX0 3 Y.a_holds Y.d_holds zb7 (zea zL zcY):=zmP Y
 refine Y.all_hold.fn.okQ c_all_hold (λvs H Q E h=>?_) (λcdv A outer s H vs Q E hr h=>?_)
 ·obtain ⟨v,cs,pw,pm,vt,ws,ms,to,rfl,_⟩:=h;rfl
 ·obtain ⟨v,cs,pw,pm,vt,ws,ms,to,rfl,hd,hcs,hpw,hpm,hto,nw,nm,w1,lw,lm,q⟩:=h
  obtain⟨pc,uc,rfl,hpc,rc,_⟩:=hd.ofT
  refine⟨_,(zg (zb1 PassesOwn.never rfl (zdj (qv 0)) (zr 4 c_all_hold.nd) (zj (zab (ziH (ziQ (zk G_holds (hr.mono (by decide)) Y.holds.mg Y.holds.kp Y.holds.b .nil zm (za (qv 4) (za (qv 1) (za (qv 2) (za (qv 3) zc))))))) (zj (zz zeZ)) zM)))
   (zj (zz zeZ))),?_⟩
  refine vr rfl ⟨pc,rfl,⟨_, .inl (.inl hpc)⟩,?_⟩
  refine zaP (zcj (K:=K) (xs:=uc)) (λi σ' H'=>(∃o4,σ'=[some (.ref pc),some (.ref pw),some (.ref pm),some vt,o4])/\(cs.take i).all (zcY ws ms to)=true/\Same H H') ⟨⟨_,rfl⟩,rfl,Same.refl _⟩ (λi σ' H' z=> .inl (.inl (z.2.2 _ _ hpc))) ?_ ?_
  ·rintro i y σ' H1 hi hy ⟨⟨o4,rfl⟩,ha,s1⟩
   obtain⟨c,hc,rcc⟩:=rc.get hy
   have hcm:=List.mem_of_getElem? hc
   have tk:(cs.take (i+1)).all (zcY ws ms to)=((cs.take i).all (zcY ws ms to)&&zcY ws ms to c):=by
    rw[List.take_add_one,hc,List.all_append];simp
   refine vr rfl (vr rfl (vr rfl (vr rfl (ex8 y c pw pm vt ws ms to ⟨rfl,rcc.same s1,hcs c hcm,s1 _ _ hpw,s1 _ _ hpm,hto,nw,nm,w1,lw,lm,λH2 s2=>(vr rfl ?_)⟩))))
   cases hb:zcY ws ms to c with
   |false=>
    have e:zeX ws ms to cs=false:=List.all_eq_false.mpr ⟨c,hcm,by rw[hb];decide⟩
    have q:=q H2 (s1.trans s2)
    rw[e] at q
    exact zaM rfl q
   |true=>exact zac rfl ⟨⟨_,rfl⟩,by rw[tk,ha,hb];rfl,s1.trans s2⟩
  ·rintro σ' H1 ⟨⟨o4,rfl⟩,ha,s1⟩
   rw[rc.1,List.take_length] at ha
   have q:=q H1 s1
   have e:zeX ws ms to cs=true:=ha
   rw[e] at q
   exact q
theorem zgi(Y:Ev K mg):FnOk P w K mg base CX0 1 Y.a_likings_of Y.d_likings_of zbu zqx:=by
 refine Y.likings_of.fn.okQ zhB (λvs H Q E h=>?_) (λcdv A outer s H vs Q E hr h=>?_)
 ·obtain ⟨v,x,g,hs,ps,lks,hds,j,rfl,_⟩:=h;rfl
 ·obtain ⟨v,x,g,hs,ps,lks,hds,j,rfl,hv,T,hj,q⟩:=h
  obtain⟨p,pr,pt,pl,pa,vt,vl,va,rfl,hp,hpr,hpt,rt,hpl,rl,hpa,ra⟩:=ze9 hv
  have hjl:j<hs.length:=by
   rcases Nat.lt_or_ge j hs.length with y|y
   ·exact y
   ·rw[List.getElem?_eq_none y] at hj;cases hj
  have hjk:j<lks.length:=by rw[T.ll];exact hjl
  have hjv:j<vl.length:=by rw[rl.1];exact hjk
  refine⟨_,(zj (zz (zP ix_tup (zP ix_tup (qv 0) zf) (zga PySem.F.plainAttrs_tuple PySem.F.slot_tuple_index PySem.F.type_tuple_index zgE (zP ix_tup (qv 0) zf) (za (qv 1) zc))))),?_⟩
  refine vr rfl (ixT hp (zI (j:=3) rfl) ?_)
  refine vr rfl (ixT hp (zI (j:=1) rfl) ?_)
  refine⟨.inr (.inr (.inr (.inr ⟨rfl,_,hpr⟩))),vr rfl (ex4 pr hs x j ⟨rfl,rfl, .inl (.inl hpr),hj,zhK T.hs_nd hj,?_⟩)⟩
  exact⟨pl,_,_,vl[j],rfl,rfl, .inl (.inl hpl),zI (by simp[hjv]),q _ lks[j] (List.getElem?_eq_getElem hjk) (rl.2 j _ _ (List.getElem?_eq_getElem hjv) (List.getElem?_eq_getElem hjk))⟩
theorem zfn(Y:Ev K mg):FnOk P w K mg base CX0 5 Y.a_worth Y.d_worth zc4 ze7:=by
 have G_all_hold:FnOk P w K mg base CX0 4 Y.a_all_hold Y.d_all_hold zba zjL:=zeO Y
 have G_likings_of:FnOk P w K mg base CX0 1 Y.a_likings_of Y.d_likings_of zbu zqx:=zgi Y
 refine Y.worth.fn.okQ c_worth (λvs H Q E h=>?_) (λcdv A outer s H vs Q E hr h=>?_)
 ·obtain ⟨v,pw,pm,x,ws,ms,g,hs,ps,lks,hds,j,rs,rfl,_⟩:=h;rfl
 ·obtain ⟨v,pw,pm,x,ws,ms,g,hs,ps,lks,hds,j,rs,rfl,hv,T,hj,hlj,hpw,hpm,nw,nm,lw,lm,q⟩:=h
  have hlk:rs.length<=90/\∀r∈rs,zS r=true:=by
   have h:=T.likes _ (List.mem_of_getElem? hlj)
   have h:(decide (rs.length<=90)&&rs.all zS)=true:=h
   rw[Bool.and_eq_true] at h
   exact⟨of_decide_eq_true h.1,List.all_eq_true.mp h.2⟩
  refine⟨_,(zg (zb1 PassesOwn.never rfl (zdj (zk G_likings_of (hr.mono (by decide)) Y.likings_of.mg Y.likings_of.kp Y.likings_of.b .nil zm (za (qv 0) (za (zP ix_tup (qv 1) zf) zc)))) (zcV 2 rfl (zy (zr 3 c_worth.nd) (zy (zr 4 c_worth.nd) zbb))) (zj (zab (ziQ (zk G_all_hold (hr.mono (by decide)) Y.all_hold.mg Y.all_hold.kp Y.all_hold.bd (.cons (a:=V.non) rfl .nil) zm (za (qv 3) (za (qv 1) (za (qv 2) zc))))) (zj (zz (qv 4))) zM)))
   (zj (zz zf))),?_⟩
  refine vr rfl (vr rfl (ixT hpw at0 (ex8 v x g hs ps lks hds j ⟨rfl,hv,T,hj,λvr d hd rd=>?_⟩)))
  rw[hlj] at hd
  cases hd
  obtain⟨pq,us,rfl,hpq,ru,_⟩:=rd.ofT
  refine⟨pq,rfl,⟨_, .inl (.inl hpq)⟩,?_⟩
  refine zaP (zcj (K:=K) (xs:=us)) (λi σ' H'=>(∃o3 o4,σ'=[some v,some (.ref pw),some (.ref pm),o3,o4])/\zT (x::ws) ms rs=zT (x::ws) ms (rs.drop i)/\Same H H') ⟨(ex2 _ _ rfl),rfl,Same.refl _⟩ (λi σ' H' z=> .inl (.inl (z.2.2 _ _ hpq))) ?_ ?_
  ·rintro i y σ' H1 hi hy ⟨⟨o3,o4,rfl⟩,hw,s1⟩
   obtain⟨r,hr',rr⟩:=ru.get hy
   obtain⟨cs,t,rfl,c4,hcs,ht⟩:=zgz (hlk.2 r (List.mem_of_getElem? hr'))
   obtain⟨q0,v0,v1,rfl,hq0,r0,r1⟩:=(rr.same s1).of2
   refine ex2 q0 _ ⟨rfl, .inl (.inl hq0),rfl,ex2 _ _ ⟨rfl,ex2 _ _ ⟨rfl,rfl,?_⟩⟩⟩
   refine vr rfl (vr rfl (vr rfl (ex8 v0 cs pw pm (.non) (x::ws) ms none ⟨rfl,r0,hcs,s1 _ _ hpw,s1 _ _ hpm, .inl ⟨rfl,rfl⟩,nw,nm,by simp,by simp;omega,lm,λH2 s2=>(vr rfl ?_)⟩)))
   rw[zkn hr',zT] at hw
   have er:zeX (x::ws) ms none (ziq (.tup [.tup cs,t]))=zeX (x::ws) ms none cs:=rfl
   rw[er] at hw
   cases hb:zeX (x::ws) ms none cs with
   |true=>
    rw[hb,if_pos rfl] at hw
    exact zaM rfl (vr rfl (q _ H2 (by rw[hw];exact r1.same s2) (s1.trans s2)))
   |false=>
    rw[hb,if_neg (by decide)] at hw
    exact zac rfl ⟨(ex2 _ _ rfl),hw,s1.trans s2⟩
  ·rintro σ' H1 ⟨⟨o3,o4,rfl⟩,hw,s1⟩
   rw[ru.1,List.drop_length,zT] at hw
   exact q _ H1 (by rw[hw];exact .int 0) s1
theorem ziP(Y:Ev K mg):FnOk P w K mg base CX0 1 Y.a_hands_of Y.d_hands_of zck zqv:=by
 refine Y.hands_of.fn.okQ zjE (λvs H Q E h=>?_) (λcdv A outer s H vs Q E hr h=>?_)
 ·obtain ⟨v,x,g,hs,ps,lks,hds,j,rfl,_⟩:=h;rfl
 ·obtain ⟨v,x,g,hs,ps,lks,hds,j,rfl,hv,T,hj,q⟩:=h
  obtain⟨p,pr,pt,pl,pa,vt,vl,va,rfl,hp,hpr,hpt,rt,hpl,rl,hpa,ra⟩:=ze9 hv
  have hjl:j<hs.length:=by
   rcases Nat.lt_or_ge j hs.length with y|y
   ·exact y
   ·rw[List.getElem?_eq_none y] at hj;cases hj
  have hjk:j<hds.length:=by rw[T.lh];exact hjl
  have hjv:j<va.length:=by rw[ra.1];exact hjk
  refine⟨_,(zj (zz (zP ix_tup (zP ix_tup (qv 0) zf) (zga PySem.F.plainAttrs_tuple PySem.F.slot_tuple_index PySem.F.type_tuple_index zgE (zP ix_tup (qv 0) zf) (za (qv 1) zc))))),?_⟩
  refine vr rfl (ixT hp (zI (j:=4) rfl) ?_)
  refine vr rfl (ixT hp (zI (j:=1) rfl) ?_)
  refine⟨.inr (.inr (.inr (.inr ⟨rfl,_,hpr⟩))),vr rfl (ex4 pr hs x j ⟨rfl,rfl, .inl (.inl hpr),hj,zhK T.hs_nd hj,?_⟩)⟩
  exact⟨pa,_,_,va[j],rfl,rfl, .inl (.inl hpa),zI (by simp[hjv]),q _ hds[j] (List.getElem?_eq_getElem hjk) (ra.2 j _ _ (List.getElem?_eq_getElem hjv) (List.getElem?_eq_getElem hjk))⟩
theorem zeR(Y:Ev K mg):FnOk P w K mg base CX0 1 Y.a_marks_behind Y.d_marks_behind zaT zgA:=by
 refine Y.marks_behind.fn.okQ c_marks_behind (λvs H Q E h=>?_) (λcdv A outer s H vs Q E hr h=>?_)
 ·obtain ⟨pm,v,t,w',m,rfl,_⟩:=h;rfl
 ·obtain ⟨pm,v,t,w',m,rfl,hpm,hv,tn,mn,l13,q⟩:=h
  obtain⟨pa,v0,v1,rfl,hpa,r0,r1⟩:=hv.of2
  cases r0 with|str _ _=>
  cases r1 with|str _ _=>
  refine⟨_,(zg (zcw (qv 1) (zcV 2 rfl (zy (zr 2 c_marks_behind.nd) (zy (zkh 3 c_marks_behind.nd) zbb))))
   (zg (zdw 4 (src:=[none,some 3]) o_marks_behind_1 rfl rfl c_marks_behind.nd (zdj (qv 0)) (λ_ _ _ _ _=>(zr 0 o_marks_behind_1.nd)) (λ_ _ _ _ _=>(ziO (zA zib (qv 0) (qc 1)))) (λ_ _ _ _ _=>(qv 0)))
   (zg (zab (zA zaO (qv 2) zD) (zj (zcg (zga PySem.F.plainAttrs_list PySem.F.slot_list_append PySem.F.type_list_append zaZ (qv 4) (za (qc 3) zc)))) zM)
   (zj (zz (zah zV Y.tuple zbz (za (zF zd5 Y.sorted zcL (za (qv 4) zc)) zc))))))),?_⟩
  refine vr rfl (ex2 pa _ ⟨rfl, .inl (.inl hpa),rfl,ex2 _ _ ⟨rfl,ex2 _ _ ⟨rfl,rfl,?_⟩⟩⟩)
  refine vr rfl ⟨pm,rfl,⟨_, .inl (.inl hpm)⟩,?_⟩
  refine zkg (g:=neD m) (f:=λd=>d) (σr:=[some (.str m)]) (zcj (K:=K)) (λH' s'=> .inl (.inl (s' _ _ hpm))) (ziV λy hy=>zau (tn y hy)) (by rw[List.length_map];omega) rfl ?_ (λx d HA sA rx hd=>by walk_at "dsp") λl1 us H1 s1 hl1 e1 r1=>?_
  ·intro z d HA Q1 sA rz hd q1
   obtain⟨b,_,rfl⟩:=List.mem_map.mp hd
   cases rz with|str _ _=>
   refine vr rfl (vr rfl ⟨rfl,vr rfl ?_⟩)
   rw[zbD]
   exact q1 HA (Same.refl _)
  rw[zp5] at r1
  have eus:=zgu r1
  subst eus
  have lf:=List.length_filter_le (λx=>!decide (x=m)) t
  dsimp only[zcU]
  have fin:∀(H2:Hp),H2 l1=some (.lst ((zbK t w' m).map V.str))->Same H H2->∀(ss:List Str) (l2:Addr),ss.Perm (zbK t w' m)->sortedS ss=true->H2 l2=none->∃p ys,[V.ref l2]=[.ref p]/\((SqL K (upd H2 l2 (.lst (ss.map V.str))) p ys/\∀l,upd H2 l2 (.lst (ss.map V.str)) l=none->Q (.ref l) (upd (upd H2 l2 (.lst (ss.map V.str))) l (.tup ys)))\/(SqT K (upd H2 l2 (.lst (ss.map V.str))) p ys/\Q (.ref p) (upd H2 l2 (.lst (ss.map V.str))))):=λH2 e2 s2 ss l2 hp2 hs2 hl2=>⟨l2,_,rfl, .inl ⟨SqL.of zb,λp hp=>by
   have es:=znz hp2 hs2
   subst es
   exact q p _ zb ((s2.trans (Same.new hl2)).trans (Same.new hp))⟩⟩
  refine vr rfl ⟨rfl,vr rfl (zcG (λe=>?_) (λe=>?_))⟩
  ·have ew:=V.str.inj (of_decide_eq_true e)
   have eb:zbK t w' m=t.filter (λx=>!decide (x=m))++ [m]:=by unfold zbK;rw[if_pos ew]
   refine vr rfl ⟨.inl ⟨rfl,_,SqL.of e1⟩,vr rfl (ex3 l1 _ _ ⟨rfl,rfl,e1,zp (by rw[List.length_map];omega),?_⟩)⟩
   have e2:(upd H1 l1 (.lst ((t.filter λx=>!decide (x=m)).map V.str ++ [V.str m]))) l1=some (.lst ((zbK t w' m).map V.str)):=by rw[zb,eb,List.map_append];rfl
   have s2:Same H (upd H1 l1 (.lst ((t.filter λx=>!decide (x=m)).map V.str ++ [V.str m]))):=λc o z=>by rw[zh (ze z hl1)];exact s1 _ _ z
   generalize (upd H1 l1 (HO.lst ((t.filter λx=>!decide (x=m)).map V.str ++ [V.str m])))=H2 at *
   exact vr rfl ⟨l1,zbK t w' m,rfl, .inl (SqL.of e2),by rw[eb,List.length_append,List.length_singleton];omega,fin H2 e2 s2⟩
  ·have ew:¬w'="put":=λz=>e (decide_eq_true (by rw[z]))
   have eb:zbK t w' m=t.filter (λx=>!decide (x=m)):=by unfold zbK;rw[if_neg ew,List.append_nil]
   have e2:H1 l1=some (.lst ((zbK t w' m).map V.str)):=by rw[eb];exact e1
   exact vr rfl ⟨l1,zbK t w' m,rfl, .inl (SqL.of e2),by rw[eb];omega,fin H1 e2 s1⟩
theorem zfq(Y:Ev K mg):FnOk P w K mg base CX0 5 Y.a_handed Y.d_handed zcO zel:=by
 have G_all_hold:FnOk P w K mg base CX0 4 Y.a_all_hold Y.d_all_hold zba zjL:=zeO Y
 have G_hands_of:FnOk P w K mg base CX0 1 Y.a_hands_of Y.d_hands_of zck zqv:=ziP Y
 have G_marks_behind:FnOk P w K mg base CX0 1 Y.a_marks_behind Y.d_marks_behind zaT zgA:=zeR Y
 refine Y.handed.fn.okQ c_handed (λvs H Q E h=>?_) (λcdv A outer s H vs Q E hr h=>?_)
 ·obtain ⟨v,pw,pm,vt,x,ws,ms,to,g,hs,ps,lks,hds,j,rs,Pr,rfl,_⟩:=h;rfl
 ·obtain ⟨v,pw,pm,vt,x,ws,ms,to,g,hs,ps,lks,hds,j,rs,Pr,rfl,hv,T,hj,hdj,HO',MS,M0,hpw,hpm,hto,nw,lw,q⟩:=h
  refine⟨_,(zg (zw 4 c_handed.nd (qv 2))
   (zg (zb1 PassesOwn.never rfl (zdj (zk G_hands_of (hr.mono (by decide)) Y.hands_of.mg Y.hands_of.kp Y.hands_of.b .nil zm (za (qv 0) (za (zP ix_tup (qv 1) zf) zc)))) (zcV 2 rfl (zy (zr 5 c_handed.nd) (zy (zr 6 c_handed.nd) zbb))) (zg (zab (ziH (ziQ (zk G_all_hold (hr.mono (by decide)) Y.all_hold.mg Y.all_hold.kp Y.all_hold.b .nil zm (za (qv 5) (za (qv 1) (za (qv 4) (za (qv 3) zc))))))) (zj zlF) zM)
   (zg (zab (zA zaO (zP ix_tup (qv 6) zf) zD) (zj (zz z9)) zM)
   (zj (zw 4 c_handed.nd (zk G_marks_behind (hr.mono (by decide)) Y.marks_behind.mg Y.marks_behind.kp Y.marks_behind.b .nil zm (za (qv 4) (za (qv 6) zc))))))))
   (zj (zz (qv 4))))),?_⟩
  refine vr rfl ?_
  refine vr rfl (vr rfl (ixT hpw at0 (ex8 v x g hs ps lks hds j ⟨rfl,hv,T,hj,λvr d hd rd=>?_⟩)))
  rw[hdj] at hd
  cases hd
  obtain⟨pq,us,rfl,hpq,ru,_⟩:=rd.ofT
  refine⟨pq,rfl,⟨_, .inl (.inl hpq)⟩,?_⟩
  refine zaP (zcj (K:=K) (xs:=us)) (λi σ' H'=>(∃pt t o5 o6,σ'=[some v,some (.ref pw),some (.ref pm),some vt,some (.ref pt),o5,o6]/\H' pt=some (.tup (t.map V.str))/\Pr i t/\zQ (x::ws) to rs ms=zQ (x::ws) to (rs.drop i) t)/\Same H H') ⟨(ex4 pm ms _ _ ⟨rfl,hpm,M0,rfl⟩),Same.refl _⟩ (λi σ' H' z=> .inl (.inl (z.2 _ _ hpq))) ?_ ?_
  ·rintro i y σ' H1 hi hy ⟨⟨pt,t,o5,o6,rfl,hpt,Mt,he⟩,s1⟩
   obtain⟨r,hr',rr⟩:=ru.get hy
   obtain⟨cs,xa,rfl,hcs,hx⟩:=HO'.2 r (List.mem_of_getElem? hr')
   obtain⟨q0,v0,v1,rfl,hq0,r0,r1⟩:=(rr.same s1).of2
   have lu:=ru.1
   obtain⟨tn,tl⟩:=MS.ok i t (by omega) Mt
   refine ex2 q0 _ ⟨rfl, .inl (.inl hq0),rfl,ex2 _ _ ⟨rfl,ex2 _ _ ⟨rfl,rfl,?_⟩⟩⟩
   refine vr rfl (vr rfl (vr rfl (vr rfl (ex8 v0 cs pw pt vt (x::ws) t to ⟨rfl,r0,hcs,s1 _ _ hpw,hpt,hto,nw,tn,by simp,by simp;omega,Nat.le_trans tl (by decide),λH2 s2=>(vr rfl ?_)⟩))))
   rw[zkn hr',zQ] at he
   have er:zeX (x::ws) t to (ziq (.tup [.tup cs,xa]))=zeX (x::ws) t to cs:=rfl
   have et:zmb (.tup [.tup cs,xa])=xa:=rfl
   rw[er,et] at he
   cases hb:zeX (x::ws) t to cs with
   |false=>
    rw[hb,if_neg (by decide)] at he
    exact zaM rfl ⟨(ex4 pt t _ _ ⟨rfl,s2 _ _ hpt,MS.skip i t Mt,he⟩),s1.trans s2⟩
   |true=>
    rw[hb,if_pos rfl] at he
    refine zac rfl ?_
    rcases hx with rfl|⟨w1,m1,rfl,hw1,hm1⟩
    ·obtain ⟨pa,ua,rfl,hpa,ra',_⟩:=(r1.same s2).ofT
     have la:ua.length=1:=ra'.1
     obtain⟨u0,rfl⟩:∃u0,ua=[u0]:=by
      match ua,la with
      |[u0],_=>exact ⟨u0,rfl⟩
     have h0:=ra'.head.1
     cases h0 with|str _ _=>
     refine vr rfl (ixT hpa at0 ⟨rfl,vr rfl (zaM (by rw[decide_eq_true rfl]) ?_)⟩)
     exact q .non H2 (by rw[he];rfl) (s1.trans s2)
    ·obtain ⟨pa,z0,z1,rfl,hpa,rz0,rz1⟩:=(r1.same s2).of2
     cases rz0 with|str _ _=>
     have nk:decide (V.str w1=V.str "keep")=false:=by
      rw[zbD]
      rcases hw1 with rfl|rfl<;>decide +kernel
     refine vr rfl (ixT hpa at0 ⟨rfl,vr rfl (zac nk ?_)⟩)
     refine vr rfl (vr rfl (ex4 pt (.ref pa) t w1 ⟨m1,rfl,s2 _ _ hpt,r1.same s2,tn,hm1,tl,λp3 H3 e3 s3=>?_⟩))
     exact⟨(ex4 p3 _ _ _ ⟨rfl,e3,MS.next i t w1 m1 cs Mt hr',he⟩),(s1.trans s2).trans s3⟩
  ·rintro σ' H1 ⟨⟨pt,t,o5,o6,rfl,hpt,Mt,he⟩,s1⟩
   rw[ru.1,List.drop_length,zQ] at he
   exact vr rfl (q _ H1 (by rw[he];exact⟨pt,rfl,hpt⟩) s1)
end
section
variable{P:Program}{w:World}{K:PySem.W.Frag}{mg:Str->Option Value}{base:Heap}
noncomputable def zds:Sp:=λvs H Q _=>∃(v:V) (x:Str) (g:Str) (hs:List Str) (ps:List (Str×Str)) (lks hds:List D),vs=[v, .str x]/\Rep H v (zaf g hs ps lks hds)/\TownOk g hs ps lks hds/\∀(l:Addr) (ts:List Str) (H':Hp),H l=none->H' l=some (.lst (ts.map V.str))->ts.Perm (zeS ps x)->sortedS ts=true->Same H H'->Q (.ref l) H'
theorem zcZ(Y:Ev K mg):FnOk P w K mg base CX0 1 Y.a_tied Y.d_tied zco zds:=by
 refine Y.tied.fn.okQ c_tied (λvs H Q E h=>?_) (λcdv A outer s H vs Q E hr h=>?_)
 ·obtain ⟨v,x,g,hs,ps,lks,hds,rfl,_⟩:=h;rfl
 ·obtain ⟨v,x,g,hs,ps,lks,hds,rfl,hv,T,q⟩:=h
  obtain⟨p,pr,pt,pl,pa,vt,vl,va,rfl,hp,hpr,hpt,rt,hpl,rl,hpa,ra⟩:=ze9 hv
  have TP:=T.lp
  refine⟨_,(zg (zw 2 c_tied.nd (zP ix_tup (qv 0) zf))
   (zj (zz (zF zd5 Y.sorted zcL (za (zE zpJ (zdR (src:=[none,none,some 1]) o_tied_1 rfl rfl (zdj (qv 2)) (λ_ _ _ _ _=>(zjh (K:=K) 2 rfl rfl (zy (zr 0 o_tied_1.nd) (zy (zr 1 o_tied_1.nd) zbb)))) (λ_ _ _ _ _=>(ziO (zA zaO (qv 1) (qc 2)))) (λ_ _ _ _ _=>(qv 0))) (zdR (src:=[none,none,some 1]) o_tied_2 rfl rfl (zdj (qv 2)) (λ_ _ _ _ _=>(zjh (K:=K) 2 rfl rfl (zy (zr 0 o_tied_2.nd) (zy (zr 1 o_tied_2.nd) zbb)))) (λ_ _ _ _ _=>(ziO (zA zaO (qv 0) (qc 2)))) (λ_ _ _ _ _=>(qv 1)))) zc))))),?_⟩
  refine vr rfl (ixT hp (zI (j:=2) rfl) ?_)
  refine vr rfl ⟨pt,rfl,⟨_, .inl (.inl hpt)⟩,?_⟩
  refine ziN (ps:=ps) (sel:=λp=>decide (p.2=x)) (f:=(·.1)) (λσ'=>∃o1 o2,σ'=[o1,o2,some (.str x)]) (zcj (K:=K)) (λH' s'=> .inl (.inl (s' _ _ hpt))) rt (by omega) (ex2 _ _ rfl) ?_ λl1 H1 s1 hl1 e1=>?_
  ·rintro q p σ' H1 A B ⟨o1,o2,rfl⟩ s1 hq hp1 k
   refine ex2 q _ ⟨rfl, .inl (.inl hq),rfl,ex2 _ _ ⟨rfl,ex2 _ _ ⟨rfl,rfl,vr rfl (vr rfl ⟨rfl,vr rfl ?_⟩)⟩⟩⟩
   have k:=k [some (.str p.1),some (.str p.2),some (.str x)] ⟨_,_,rfl⟩
   rw[zbD]
   cases e:decide (p.2=x)with
   |false=>rw[e] at k;exact k
   |true=>rw[e] at k;exact⟨_,rfl,k⟩
  refine vr rfl ⟨pt,rfl,⟨_, .inl (.inl (s1 _ _ hpt))⟩,?_⟩
  refine ziN (ps:=ps) (sel:=λp=>decide (p.1=x)) (f:=(·.2)) (λσ'=>∃o1 o2,σ'=[o1,o2,some (.str x)]) (zcj (K:=K)) (λH' s'=> .inl (.inl (s' _ _ (s1 _ _ hpt)))) (rt.mono (.of s1)) (by omega) (ex2 _ _ rfl) ?_ λl2 H2 s2 hl2 e2=>?_
  ·rintro q p σ' H1 A B ⟨o1,o2,rfl⟩ s1 hq hp1 k
   refine ex2 q _ ⟨rfl, .inl (.inl hq),rfl,ex2 _ _ ⟨rfl,ex2 _ _ ⟨rfl,rfl,vr rfl (vr rfl ⟨rfl,vr rfl ?_⟩)⟩⟩⟩
   have k:=k [some (.str p.1),some (.str p.2),some (.str x)] ⟨_,_,rfl⟩
   rw[zbD]
   cases e:decide (p.1=x)with
   |false=>rw[e] at k;exact k
   |true=>rw[e] at k;exact⟨_,rfl,k⟩
  have nl:=zcM T x
  have nl':((ps.filter λp=>decide (p.2=x)).map (·.1)).length+((ps.filter λp=>decide (p.1=x)).map (·.2)).length<=10:=by rw[←List.length_append];exact nl
  refine ex4 l1 l2 _ _ ⟨rfl,rfl,s2 _ _ e1,e2,Nat.le_of_lt (zp (by simp only[List.length_map] at nl'⊢;omega)),λl3 hl3=>?_⟩
  rw[←List.map_append]
  have S3:=Same.new (o:= .lst ((zeS ps x).map V.str)) hl3
  refine⟨l3,zeS ps x,rfl, .inl (SqL.of zb),by omega,λts l4 hp4 hs4 hl4=>q l4 ts _ ?_ zb hp4 hs4 (((s1.trans s2).trans S3).trans (Same.new hl4))⟩
  exact zaU ((s1.trans s2).trans S3) hl4
end
section
variable{P:Program}{w:World}{K:PySem.W.Frag}{mg:Str->Option Value}{base:Heap}
noncomputable def zjV(K:PySem.W.Frag):Sp:=λvs H Q _=>∃(b:Addr) (ns:List Int),vs=[.ref b]/\SqL K H b (ns.map V.int)/\ns.length<=63/\∀a H',H a=none->Hand H' a 0->Same H H'->Q (.ref a) H'
theorem zhr{x:Int}{n:Nat}(h0:0<=x)(h1:x<2^n)(hn:n<=20000):Builtin.Int.intBits x<=2^20:=by
 unfold Builtin.Int.intBits
 split
 ·exact Nat.zero_le _
 ·rename_i hz
  have hz:x≠0:=by simpa using hz
  have:x.natAbs<2^n:=by
   have e:((2^n:Nat):Int)=(2:Int)^n:=by push_cast;rfl
   omega
  have h2:x.natAbs.log2<n:=(Nat.log2_lt (by omega)).mpr this
  have h3:(20000:Nat)<=2^20:=by decide
  omega
theorem zje{a b:Int}{p q:Nat}(h0:0<=a)(h1:a<2^p)(h2:0<b)(h3:b<2^q):a*b<2^(p+q):=by
 have e1:a*b<2^p*b:=Int.mul_lt_mul_of_pos_right h1 h2
 have e2:(2:Int)^p*b<=2^p*2^q:=Int.mul_le_mul_of_nonneg_left (Int.le_of_lt h3) (zjl p)
 have e3:(2:Int)^(p+q)=2^p*2^q:=Int.pow_add 2 p q
 rw[e3];exact Int.lt_of_lt_of_le e1 e2
theorem zmd(Y:Ev K mg):FnOk P w K mg base CX0 2 Y.a__law_all Y.d__law_all zci (zjV K):=by
 have G__law_hand:FnOk P w K mg base CX0 1 Y.a__law_hand Y.d__law_hand zbZ (zmy K):=znv Y
 refine Y._law_all.fn.okQ c__law_all (λvs H Q E h=>?_) (λcdv A outer s H vs Q E hr h=>?_)
 ·obtain ⟨b,ns,rfl,_⟩:=h;rfl
 ·obtain ⟨b,ns,rfl,hS,hns,q⟩:=h
  refine⟨_,(zg (zw 1 c__law_all.nd (zk G__law_hand (hr.mono (by decide)) Y._law_hand.mg Y._law_hand.kp Y._law_hand.b .nil zm (za (qv 0) (za zf zc))))
   (zg (zw 2 c__law_all.nd (zE zb2 (zP ix_list (qv 1) zf) (zE zeB zf zf)))
   (zg (zw 3 c__law_all.nd (zE zeB zf zf))
   (zg (zb1 PassesOwn.never rfl (zmH Y.range (za zf (za (zF (zet rfl) Y.min zen (za (zF zam Y.len zch (za (qv 0) zc)) (za zf zc))) zc))) (zr 4 c__law_all.nd) (zg (zw 5 c__law_all.nd (zk G__law_hand (hr.mono (by decide)) Y._law_hand.mg Y._law_hand.kp Y._law_hand.b .nil zm (za (qv 0) (za (qv 4) zc))))
   (zg (zw 2 c__law_all.nd (zE zY (qv 2) (zE zks (zE zb2 (zP ix_list (qv 5) zf) (zE zeB zf zf)) (qv 3))))
   (zg (zw 3 c__law_all.nd (zE zks (qv 3) (zE zeB zf zf)))
   (zj (zcw (zE zb2 (zE zY (zE za8 (zP ix_list (qv 1) zf) zf) (zP ix_list (qv 5) zf)) zf) (zhR (qv 1) zf zdl)))))))
   (zdp (zab (zA zjQ (zP ix_list (qv 1) zf) zf) (zj (zcw (qv 2) (zhR (qv 1) zf zdl))) zM)
   (zj (zz (qv 1)))))))),?_⟩
  have cp:zpr 10 60:=⟨by decide,by decide,by decide⟩
  have p60:(10:Int)^(60:Int).toNat<2^200:=by decide +kernel
  have p0:(0:Int)<(10:Int)^(60:Int).toNat:=by decide +kernel
  refine vr rfl (ex3 b ns 0 ⟨rfl,hS,by decide,by decide,λa H1 ha hH1 s1=>?_⟩)
  obtain⟨x,m,t,h1,m0,m1,t0,t1⟩:=hH1
  refine⟨_,rfl,a,_,0,_,rfl,rfl,SqL.of h1,at0,_,_,rfl,rfl,cp,_,_,rfl,rfl,p0,?_⟩
  refine ex2 _ _ ⟨rfl,rfl,cp,?_⟩
  refine vr rfl (.inl (ex2 b _ ⟨rfl, .inl (s1.seq hS),ex2 _ _ ⟨rfl,ex2 1 _ ⟨rfl,⟨by decide,by decide,by split<;>omega,by split<;>omega⟩,?_⟩⟩⟩))
  refine zaP zcD (λi σ' H'=>∃(o4 o5:Option V) (dg far m:Int),σ'=[some (.ref b),some (.ref a),some (.int dg),some (.int far),o4,o5]/\0<=far/\far<2^(200*(i+1))/\H' a=some (.lst [.int x, .int m, .int t])/\0<=m/\m<2^63/\Same H H') ?_ (λ_ _ _ _=>trivial) ?_ ?_
  ·exact ex4 _ _ _ _ ⟨m,rfl,Int.le_of_lt p0,p60,h1,m0,m1,s1⟩
  ·rintro i y σ' H2 hi rfl ⟨o4,o5,dg,far,m,rfl,f0,f1,h2,m0,m1,s2⟩
   have hi63:i<63:=by
    refine Nat.lt_of_lt_of_le hi ?_
    rw[List.length_map]
    split<;>omega
   refine vr rfl (vr rfl (ex3 b ns _ ⟨rfl,s2.seq hS,by omega,by omega,λa2 H3 ha2 hH3 s3=>?_⟩))
   obtain⟨x3,m3,t3,h3,n0,n1,_,_⟩:=hH3
   have h2':=s3 _ _ h2
   have b1:Builtin.Int.intBits (x3%(10:Int)^(60:Int).toNat)<=2^20:=zhr (n:=200) (Int.emod_nonneg _ (Int.ne_of_gt p0)) (Int.lt_trans (Int.emod_lt_of_pos _ p0) p60) (by decide)
   have b2:Builtin.Int.intBits far<=2^20:=zhr f0 f1 (by omega)
   have b3:Builtin.Int.intBits ((10:Int)^(60:Int).toNat)<=2^20:=zhr (n:=200) (Int.le_of_lt p0) p60 (by decide)
   refine⟨_,rfl,_,rfl,a2,_,0,_,rfl,rfl,SqL.of h3,at0,_,_,rfl,rfl,cp,_,_,rfl,rfl,p0,_,rfl,_,_,rfl,rfl,⟨b1,b2⟩,_,_,rfl,rfl,?_⟩
   refine⟨_,rfl,_,_,rfl,rfl,cp,_,_,rfl,rfl,⟨b2,b3⟩,?_⟩
   refine vr rfl (ixL h2' at1 (ex2 _ _ ⟨rfl,rfl, .inl ⟨by omega,by omega⟩,vr rfl (ixL h3 at1 (ex2 _ _ ⟨rfl,rfl,ex2 _ _ ⟨rfl,rfl,(by decide:(0:Int)<2305843009213693951),?_⟩⟩))⟩))
   refine vr rfl (ex4 a _ 1 1 ⟨rfl,rfl,h2',rfl,?_⟩)
   refine ex4 _ _ _ _ ⟨_,rfl,Int.mul_nonneg f0 (Int.le_of_lt p0),?_,zb,Int.emod_nonneg _ (by decide),?_,?_⟩
   ·have:=zje f0 f1 p0 p60
    rw[show 200*(i+1+1)=200*(i+1)+200 by omega]
    exact this
   ·have:=Int.emod_lt_of_pos (m*48271+m3) (by decide:(0:Int)<2305843009213693951)
    exact Int.lt_trans this (by decide)
   ·exact λc o e=>by rw[zh (ze e ha)];exact s3 _ _ (s2 _ _ e)
  ·rintro σ' H2 ⟨o4,o5,dg,far,m,rfl,f0,f1,h2,m0,m1,s2⟩
   refine⟨λσ' H'=>∃(o2 o3 o4 o5:Option V),σ'=[some (.ref b),some (.ref a),o2,o3,o4,o5]/\Hand H' a 0/\Same H H',?_,?_⟩
   ·refine vr rfl (ixL h2 at0 (ex2 _ _ ⟨rfl,rfl,vr rfl (zcG (λ_=>?_) (λ_=>?_))⟩))
    ·refine vr rfl (vr rfl (ex4 a _ 0 0 ⟨rfl,rfl,h2,rfl,ex4 _ _ _ _ ⟨rfl,⟨_,m,t,zb,m0,m1,t0,t1⟩,?_⟩⟩))
     exact λc o e=>by rw[zh (ze e ha)];exact s2 _ _ e
    ·exact ex4 _ _ _ _ ⟨rfl,⟨x,m,t,h2,m0,m1,t0,t1⟩,s2⟩
   ·rintro σ' H3 ⟨o2,o3,o4,o5,rfl,hH3,s3⟩
    exact vr rfl (q a H3 ha hH3 s3)
end
section
variable{P:Program}{w:World}{K:PySem.W.Frag}{mg:Str->Option Value}{base:Heap}
theorem zqW{k:Nat}{A:Around}(r:Room k A):A.units+70<cLine:=by have:=r.un;omega
theorem zkF{a b c:V}:atI [a,b,c] (-1)=some c:=rfl
theorem zgm(Y:Ev K mg):FnOk P w K mg base CX0 6 Y.a_liking_key Y.d_liking_key zbw zoL:=by
 have G_worth:FnOk P w K mg base CX0 5 Y.a_worth Y.d_worth zc4 ze7:=zfn Y
 refine Y.liking_key.fn.okQ zhE (λvs H Q E h=>?_) (λcdv A outer s H vs Q E hr h=>?_)
 ·obtain ⟨v,pw,pm,x,ws,ms,g,hs,ps,lks,hds,j,rs,i,rfl,_⟩:=h;rfl
 ·obtain ⟨v,pw,pm,x,ws,ms,g,hs,ps,lks,hds,j,rs,i,rfl,hv,T,hj,hlj,hpw,hpm,nw,nm,lw,lm,hi,q⟩:=h
  refine⟨_,(zj (zz (zx (za (zhb zc2 (zk G_worth (hr.mono (by decide)) Y.worth.mg Y.worth.kp Y.worth.b .nil zm (za (qv 0) (za (qv 1) (za (qv 2) zc))))) (za (zF zam Y.len zch (za (qv 1) zc)) (za (qv 1) zc)))))),?_⟩
  refine⟨_,rfl,_,rfl,_,rfl,v,pw,pm,x,ws,ms,g,hs,ps,lks,hds,j,rs,rfl,hv,T,hj,hlj,hpw,hpm,nw,nm,lw,lm,λu H1 ru s1=>?_⟩
  rw[hi] at ru
  cases ru with|int _=>
  refine⟨_,rfl,_,rfl, .inl ⟨pw,_,rfl, .inr (.inl (.inl (s1 _ _ hpw))),_,rfl,few rfl,λpk hpk=>?_⟩⟩
  have S:=Same.new (o:= .tup [V.int (-i), .int (((x::ws).map V.str).length:Int), .ref pw]) hpk
  refine q _ _ ⟨pk,pw,rfl,?_,S _ _ (s1 _ _ hpw),λy hy=>zak (nw y hy)⟩ (s1.trans S)
  rw[zb,List.length_map]
def PairO(H:Hp)(b:Addr)(e:WM):Prop:=∃pw pm,H b=some (.tup [.ref pw, .ref pm])/\H pw=some (.tup (e.1.map V.str))/\H pm=some (.tup (e.2.map V.str))
structure EOk(x:Str)(rs:List D)(e:WM):Prop where
 hd:∃ws,e.1=x::ws
 nw:∀y∈e.1,zi y=true
 nm:∀y∈e.2,zi y=true
 lw:e.1.length<=80
 lm:e.2.length<=100
 wt:zT e.1 e.2 rs= .int (wI rs e)
theorem AtG.mono{α:Type}{Oa:Hp->Addr->α->Prop}{H H':Hp}{vs:List V}{ps:List α}(h:AtG Oa H vs ps)(m:∀b p,Oa H b p->Oa H' b p):AtG Oa H' vs ps:=
 ⟨h.1,λi v p e1 e2=>let ⟨b,e,o⟩:=h.2 i v p e1 e2;⟨b,e,m b p o⟩⟩
theorem AtG.snoc{α:Type}{Oa:Hp->Addr->α->Prop}{H:Hp}{vs:List V}{ps:List α}{b:Addr}{p:α}(h:AtG Oa H vs ps)(o:Oa H b p):AtG Oa H (vs ++ [.ref b]) (ps ++ [p]):=by
 refine⟨by rw[List.length_append,List.length_append,h.1];rfl,λi v q e1 e2=>?_⟩
 rcases Nat.lt_or_ge i vs.length with z|z
 ·rw[List.getElem?_append_left z] at e1
  rw[List.getElem?_append_left (by rw[←h.1];exact z)] at e2
  exact h.2 i v q e1 e2
 ·rw[List.getElem?_append_right z] at e1
  rw[List.getElem?_append_right (by rw[←h.1];exact z),←h.1] at e2
  cases hk:i -vs.length with
  |zero=>rw[hk] at e1 e2;cases e1;cases e2;exact⟨b,rfl,o⟩
  |succ n=>rw[hk] at e1;cases e1
def WmAt(H:Hp)(x y:V):Option WM->Prop
 |none=>x= .non/\∃e,y= .ref e/\H e=some (.tup [])
 |some (w,ms)=>∃pw pm,x= .ref pw/\y= .ref pm/\H pw=some (.tup (w.map V.str))/\H pm=some (.tup (ms.map V.str))
theorem WmAt.mono{H H':Hp}{x y:V}{b:Option WM}(h:WmAt H x y b)(m:∀c xs,H c=some (.tup xs)->H' c=some (.tup xs)):WmAt H' x y b:=by
 match b,h with
 |none,⟨h1,e,h2,h3⟩=>exact ⟨h1,e,h2,m _ _ h3⟩
 |some (w,ms),⟨pw,pm,h1,h2,h3,h4⟩=>exact ⟨pw,pm,h1,h2,m _ _ h3,m _ _ h4⟩
def GoR(H:Hp)(g:Addr)(b:Option WM):Prop:=∃x y,H g=some (.tup [x,y])/\WmAt H x y b
theorem GoR.mono{H H':Hp}{g:Addr}{b:Option WM}(h:GoR H g b)(m:∀c xs,H c=some (.tup xs)->H' c=some (.tup xs)):GoR H' g b:=let⟨x,y,e,w⟩:=h;⟨x,y,m _ _ e,w.mono m⟩
theorem AtG.addrs{α:Type}{Oa:Hp->Addr->α->Prop}{H:Hp}{vs:List V}{ps:List α}(h:AtG Oa H vs ps):∃bs:List Addr,vs=bs.map V.ref/\bs.length=ps.length/\∀(i:Nat) (b:Addr) (p:α),bs[i]?=some b->ps[i]?=some p->Oa H b p:=by
 obtain⟨hl,h⟩:=h
 induction vs generalizing ps with
 |nil=>exact ⟨[],rfl,hl,λi b p e=>by cases e⟩
 |cons v vs ih=>
  cases ps with
  |nil=>cases hl
  |cons p ps=>
   obtain⟨b,rfl,o⟩:=h 0 v p rfl rfl
   obtain⟨bs,rfl,l,r⟩:=ih (by simpa using hl) λi v p e1 e2=>h (i+1) v p e1 e2
   refine⟨b::bs,rfl,by rw[List.length_cons,List.length_cons,l],λi b' p' e1 e2=>?_⟩
   cases i with
   |zero=>cases e1;cases e2;exact o
   |succ i=>exact r i b' p' e1 e2
def KmM(rs:List D)(H:Hp)(b:Addr)(e:WM):Prop:=∃t pm,H b=some (.tup [.ref t, .ref pm])/\KeyO H t (kE rs e)/\H pm=some (.tup (e.2.map V.str))
noncomputable def zqJ:Sp:=λvs H Q _=>∃(v:V) (l:Addr) (us:List V) (es:List WM) (x:Str) (g:Str) (hs:List Str) (ps:List (Str×Str)) (lks hds:List D) (j:Nat) (rs:List D),vs=[v, .ref l]/\Rep H v (zaf g hs ps lks hds)/\TownOk g hs ps lks hds/\hs[j]?=some x/\lks[j]?=some (.tup rs)/\H l=some (.lst us)/\AtG PairO H us es/\es.length<64/\(es.map (·.1)).Nodup/\(∀e∈es,EOk x rs e)/\
 ∀(q:Addr) (b:Option WM) (H':Hp),zbt rs es b->GoR H' q b->Same H H'->Q (.ref q) H'
theorem zgl(Y:Ev K mg):FnOk P w K mg base CX0 7 Y.a_most_liked Y.d_most_liked zbv zqJ:=by
 have G_liking_key:FnOk P w K mg base CX0 6 Y.a_liking_key Y.d_liking_key zbw zoL:=zgm Y
 refine Y.most_liked.fn.okQ c_most_liked (λvs H Q E h=>?_) (λcdv A outer s H vs Q E hr h=>?_)
 ·obtain ⟨v,l,us,es,x,g,hs,ps,lks,hds,j,rs,rfl,_⟩:=h;rfl
 ·obtain ⟨v,l,us,es,x,g,hs,ps,lks,hds,j,rs,rfl,hv,T,hj,hlj,hl,at1,h64,nde,eok,q⟩:=h
  have lu:us.length=es.length:=at1.1
  refine⟨_,(zg (zdw 2 (src:=[none,none,some 0]) o_most_liked_1 rfl rfl c_most_liked.nd (zeE (qv 1)) (λ_ _ _ _ _=>(zjh (K:=K) 2 rfl rfl (zy (zr 0 o_most_liked_1.nd) (zy (zr 1 o_most_liked_1.nd) zbb)))) (λ_ _ _ _ _=>zgI) (λ_ _ _ _ _=>(zx (za (zk G_liking_key (hr.mono (by decide)) Y.liking_key.mg Y.liking_key.kp Y.liking_key.b .nil zm (za (qc 2) (za (qv 0) (za (qv 1) zc)))) (za (qv 1) zc)))))
   (zg (zab (ziH (znD (qv 2))) (zj (zz (zx (za z9 (za (zx zc) zc))))) zM)
   (zg (zcw (zF (zjf rfl (zqW hr)) Y.min zen (za (qv 2) zc)) (zcV 2 rfl (zy (zr 3 c_most_liked.nd) (zy (zr 4 c_most_liked.nd) zbb))))
   (zj (zz (zx (za (zP ix_tup (qv 3) (zhb zc2 zf)) (za (qv 4) zc)))))))),?_⟩
  refine zq2 λn e1=>?_
  refine⟨_,rfl,l,rfl,⟨_,SqL.of hl⟩,?_⟩
  refine zcz (zdt (K:=K) (xs:=us)) (λl' i ys σ' H'=>(∃o1 o2,σ'=[o1,o2,some v])/\AtG (KmM rs) H' ys (es.take i)/\Same H H') ?_ (λl' i ys σ' H' hl' z=>SqL.of (z.2.2 _ _ hl)) ?_ ?_
  ·exact λl' hl'=>⟨⟨_,_,rfl⟩,⟨rfl,λi v p e1 _=>by cases e1⟩,Same.new hl'⟩
  ·rintro l' i y0 ys σ' H1 hl' hi hy ⟨⟨o1,o2,rfl⟩,a1,s1⟩ hl1
   have hi':i<es.length:=by omega
   obtain⟨b,rfl,pw,pm,hb,hpw,hpm⟩:=at1.2 i y0 es[i] hy (List.getElem?_eq_getElem hi')
   have ee:=eok es[i] (List.getElem_mem hi')
   have tk:es.take (i+1)=es.take i ++ [es[i]]:=by rw[List.take_add_one,List.getElem?_eq_getElem hi'];rfl
   rw[tk]
   have ly:ys.length=i:=by have:=a1.1;rw[List.length_take] at this;omega
   generalize es[i]=e at *
   obtain⟨ew,em⟩:=e
   obtain⟨ws,rfl⟩:=ee.hd
   refine⟨b,_,rfl, .inl (.inl (s1 _ _ hb)),rfl,_,_,rfl,_,_,rfl,rfl,?_⟩
   refine⟨_,rfl,_,rfl,_,rfl,v,pw,pm,x,ws,em,g,hs,ps,lks,hds,j,rs,wI rs (x::ws,em),rfl,hv.same s1,T,hj,hlj,s1 _ _ hpw,s1 _ _ hpm,ee.nw,ee.nm,by have:=ee.lw;simp only[List.length_cons] at this;omega,ee.lm,ee.wt,λu H2 ku s2=>?_⟩
   obtain⟨kb,kp,rfl,k1,k2,k3⟩:=ku
   have S3:∀{c:Addr},H2 c=none->Same H2 (upd H2 c (.tup [.ref kb, .ref pm])):=λ{c} h=>Same.new h
   refine⟨_,rfl,few rfl,λpt hpt=>?_⟩
   have s3:=S3 hpt
   have hl3:=s3 _ _ (s2 _ _ hl1)
   refine⟨hl3,zp (by omega),⟨_,_,rfl⟩,?_,λc o e=>by rw[zh (ze e hl')];exact s3 _ _ (s2 _ _ (s1 c o e))⟩
   have up:∀c (xs:List V),(upd H2 pt (.tup [.ref kb, .ref pm])) c=some (.tup xs)->upd (upd H2 pt (.tup [.ref kb, .ref pm])) l' (.lst (ys ++ [.ref pt])) c=some (.tup xs):=λc xs e=>by rw[zh (zB e hl3 (by intro z;cases z))];exact e
   refine AtG.snoc (AtG.mono a1 λc k ⟨t,pm',h1,⟨p,e,f,o⟩,h3⟩=>?_) ?_
   ·exact ⟨t,pm',up _ _ (s3 _ _ (s2 _ _ h1)),⟨p,up _ _ (s3 _ _ (s2 _ _ e)),up _ _ (s3 _ _ (s2 _ _ f)),o⟩,up _ _ (s3 _ _ (s2 _ _ h3))⟩
   ·exact ⟨kb,pm,up _ _ zb,⟨kp,up _ _ (s3 _ _ k1),up _ _ (s3 _ _ k2),k3⟩,up _ _ (s3 _ _ (s2 _ _ (s1 _ _ hpm)))⟩
  rintro l1 zs σ' H1 hl1' ⟨⟨o1,o2,rfl⟩,a1,s1⟩ hl1
  rw[lu,List.take_length] at a1
  dsimp only[zcU]
  refine e1 _ _ ?_
  obtain⟨bs,rfl,lb,hb⟩:=AtG.addrs a1
  have ndk:(es.map (kE rs)).Nodup:=by
   refine List.pairwise_map.mpr ((List.pairwise_map.mp nde).imp λh z=>h ?_)
   exact congrArg (λk:Ky=>k.2.2) z
  by_cases h0:es=[]
  ·subst h0
   have hb0:bs=[]:=List.eq_nil_of_length_eq_zero lb
   subst hb0
   refine⟨_,rfl,false, .inl ⟨_,SqL.of hl1,rfl⟩,zaM rfl ?_⟩
   refine⟨few rfl,λe2 he2=>⟨few rfl,λq2 hq2=>?_⟩⟩
   exact q q2 none _ rfl ⟨.non, .ref e2,zb,rfl,e2,rfl,Same.new hq2 _ _ zb⟩ (s1.trans ((Same.new he2).trans (Same.new hq2)))
  have l0:0<es.length:=List.length_pos_iff.mpr h0
  refine⟨_,rfl,true, .inl ⟨_,SqL.of hl1,?_⟩,zac rfl ?_⟩
  ·cases bs with
   |nil=>rw[←lb] at l0;cases l0
   |cons _ _=>rfl
  refine⟨_,rfl,l1,bs,es.map (kE rs),rfl,hl1,by rw[List.length_map];exact lb,λi b k e1 e2=>?_,ndk,by rw[List.length_map];exact l0,λm b k e1 e2 best=>?_⟩
  ·rw[List.getElem?_map] at e2
   cases e3:es[i]? with
   |none=>rw[e3] at e2;cases e2
   |some e=>
    rw[e3] at e2;cases e2
    obtain⟨t,pm,h1,h2,h3⟩:=hb i b e e1 e3
    exact⟨_,t,h1,h2⟩
  ·rw[List.getElem?_map] at e2
   cases e3:es[m]? with
   |none=>rw[e3] at e2;cases e2
   |some e=>
    rw[e3] at e2;cases e2
    obtain⟨t,pm,h1,⟨p,h2,h3,h4⟩,h5⟩:=hb m b e e1 e3
    refine⟨b,_,rfl, .inl (.inl h1),rfl,_,_,rfl,_,_,rfl,rfl,?_⟩
    refine⟨_,rfl,1,rfl,t,_,-1,_,rfl,rfl, .inl (.inl h2),zkF,_,rfl,few rfl,λq2 hq2=>?_⟩
    have S:=Same.new (o:= .tup [V.ref p,V.ref pm]) hq2
    refine q q2 (some e) _ ⟨List.mem_of_getElem? e3,λe' he' ne=>best _ (List.mem_map.mpr ⟨e',he',rfl⟩) ne⟩ ⟨.ref p, .ref pm,zb,p,pm,rfl,rfl,S _ _ h3,S _ _ h5⟩ (s1.trans S)
end
section
variable{P:Program}{w:World}{K:PySem.W.Frag}{mg:Str->Option Value}{base:Heap}
noncomputable def zc9(v:V)(nm:Str)(hd td g:Addr)(n:Int):List (Str×V):=[("place",v),("name", .str nm),("hearings", .ref hd),("tellings", .ref td),("going", .ref g),("times", .int n)]
theorem zcT{v:V}{nm:Str}{hd td g:Addr}{n:Int}:(zc9 v nm hd td g n).lookup ("place":Str)=some v:=by rfl
theorem zcs{v:V}{nm:Str}{hd td g:Addr}{n:Int}:(zc9 v nm hd td g n).lookup ("name":Str)=some (.str nm):=by rfl
theorem zhc{v:V}{nm:Str}{hd td g:Addr}{n:Int}:(zc9 v nm hd td g n).lookup ("hearings":Str)=some (.ref hd):=by rfl
theorem zj3{v:V}{nm:Str}{hd td g:Addr}{n:Int}:(zc9 v nm hd td g n).lookup ("tellings":Str)=some (.ref td):=by rfl
theorem zdT{v:V}{nm:Str}{hd td g:Addr}{n:Int}:(zc9 v nm hd td g n).lookup ("going":Str)=some (.ref g):=by rfl
theorem zmM{v:V}{nm:Str}{hd td g:Addr}{n:Int}:(zc9 v nm hd td g n).lookup ("times":Str)=some (.int n):=by rfl
noncomputable def zhT(C:Addr):Sp:=λvs H Q _=>∃(p dx:Addr) (v:V) (nm:Str),vs=[.ref p,v, .str nm]/\H p=some (.ins C dx [])/\∀(hd td g e:Addr) (H':Hp),H hd=none->H td=none->H g=none->H e=none->hd≠td->H' p=some (.ins C dx (zc9 v nm hd td g 0))->H' hd=some (.dK [])->H' td=some (.dK [])->H' g=some (.tup [.non, .ref e])->H' e=some (.tup [])->Keep p H H'->Q .non H'
theorem zlg(Y:Ev K mg):FnOk P w K mg base CX0 1 Y.a_House___init__ Y.d_House___init__ zap (zhT Y.c_House):=by
 refine Y.House___init__.fn.okQ zem (λvs H Q E h=>?_) (λcdv A outer s H vs Q E hr h=>?_)
 ·obtain ⟨p,dx,v,nm,rfl,_⟩:=h;rfl
 ·obtain ⟨p,dx,v,nm,rfl,hp,q⟩:=h
  refine⟨_,(zg (zfR (qv 0) (qv 1))
   (zg (zfR (qv 0) (qv 2))
   (zg (zfR (qv 0) zeD)
   (zg (zfR (qv 0) zeD)
   (zg (zfR (qv 0) (zx (za z9 (za (zx zc) zc))))
   (zj (zfR (qv 0) zf))))))),?_⟩
  refine⟨_,rfl,_,rfl,p,_,dx,[],rfl,hp,Y.k_House,Y.n_House_place,(by decide:0<1000),?_⟩
  have s1:Keep p H (upd H p (.ins Y.c_House dx (za7 "place" v []))):=Keep.upd _ _ _
  have p1:upd H p (.ins Y.c_House dx (za7 "place" v [])) p=some (.ins Y.c_House dx [("place",v)]):=zb
  generalize upd H p (.ins Y.c_House dx (za7 "place" v []))=H1 at *
  refine⟨_,rfl,_,rfl,p,_,dx,_,rfl,p1,Y.k_House,Y.n_House_name,(by decide:1<1000),?_⟩
  have s2:Keep p H (upd H1 p (.ins Y.c_House dx (za7 "name" (.str nm) [("place",v)]))):=s1.trans (Keep.upd _ _ _)
  have p2:upd H1 p (.ins Y.c_House dx (za7 "name" (.str nm) [("place",v)])) p=some (.ins Y.c_House dx [("place",v),("name", .str nm)]):=zb
  generalize upd H1 p (.ins Y.c_House dx (za7 "name" (.str nm) [("place",v)]))=H2 at *
  have none_of:∀{G:Hp} {b:Addr},H p=some (.ins Y.c_House dx [])->Keep p H G->G b=none->(∃o,G p=some o)->H b=none:=λ{G b} hp k e ⟨o,ho⟩=>by
   cases z:H b with
   |none=>rfl
   |some u=>
    have:b≠p:=λy=>by rw[y,ho] at e;cases e
    rw[k b u this z] at e;cases e
  refine λhd hhd=>⟨_,rfl,p,_,dx,_,rfl,Same.new hhd _ _ p2,Y.k_House,Y.n_House_hearings,(by decide:2<1000),?_⟩
  have h1:=none_of hp s2 hhd ⟨_,p2⟩
  have npd:hd≠p:=λz=>by rw[z,p2] at hhd;cases hhd
  have s3:Keep p H (upd (upd H2 hd (.dK [])) p (.ins Y.c_House dx (za7 "hearings" (.ref hd) [("place",v),("name", .str nm)]))):=(s2.trans (Keep.new hhd)).trans (Keep.upd _ _ _)
  have p3:upd (upd H2 hd (.dK [])) p (.ins Y.c_House dx (za7 "hearings" (.ref hd) [("place",v),("name", .str nm)])) p=some (.ins Y.c_House dx [("place",v),("name", .str nm),("hearings", .ref hd)]):=zb
  have d3:upd (upd H2 hd (.dK [])) p (.ins Y.c_House dx (za7 "hearings" (.ref hd) [("place",v),("name", .str nm)])) hd=some (.dK []):=by rw[zh npd];exact zb
  generalize upd (upd H2 hd (.dK [])) p (.ins Y.c_House dx (za7 "hearings" (.ref hd) [("place",v),("name", .str nm)]))=H3 at *
  refine λtd htd=>⟨_,rfl,p,_,dx,_,rfl,Same.new htd _ _ p3,Y.k_House,Y.n_House_tellings,(by decide:3<1000),?_⟩
  have h2:=none_of hp s3 htd ⟨_,p3⟩
  have npt:td≠p:=λz=>by rw[z,p3] at htd;cases htd
  have nht:hd≠td:=ze d3 htd
  have s4:Keep p H (upd (upd H3 td (.dK [])) p (.ins Y.c_House dx (za7 "tellings" (.ref td) [("place",v),("name", .str nm),("hearings", .ref hd)]))):=(s3.trans (Keep.new htd)).trans (Keep.upd _ _ _)
  have p4:upd (upd H3 td (.dK [])) p (.ins Y.c_House dx (za7 "tellings" (.ref td) [("place",v),("name", .str nm),("hearings", .ref hd)])) p=some (.ins Y.c_House dx [("place",v),("name", .str nm),("hearings", .ref hd),("tellings", .ref td)]):=zb
  have d4:upd (upd H3 td (.dK [])) p (.ins Y.c_House dx (za7 "tellings" (.ref td) [("place",v),("name", .str nm),("hearings", .ref hd)])) td=some (.dK []):=by rw[zh npt];exact zb
  have d4':upd (upd H3 td (.dK [])) p (.ins Y.c_House dx (za7 "tellings" (.ref td) [("place",v),("name", .str nm),("hearings", .ref hd)])) hd=some (.dK []):=by rw[zh npd];exact Same.new htd _ _ d3
  generalize upd (upd H3 td (.dK [])) p (.ins Y.c_House dx (za7 "tellings" (.ref td) [("place",v),("name", .str nm),("hearings", .ref hd)]))=H4 at *
  refine⟨few rfl,λe he=>⟨few rfl,λg hg=>?_⟩⟩
  have S5:=Same.new (o:= .tup ([]:List V)) he
  have S6:=Same.new (o:= .tup [V.non, .ref e]) hg
  have h3:=none_of hp s4 he ⟨_,p4⟩
  have h4:=none_of hp (s4.trans (Keep.of S5)) hg ⟨_,S5 _ _ p4⟩
  refine⟨_,rfl,p,_,dx,_,rfl,S6 _ _ (S5 _ _ p4),Y.k_House,Y.n_House_going,(by decide:4<1000),_,rfl,p,_,dx,_,rfl,zb,Y.k_House,Y.n_House_times,(by decide:5<1000),?_⟩
  rw[zkj]
  have ng:∀{b},H b=none->b≠p:=λ{b} e z=>by rw[z,hp] at e;cases e
  refine q hd td g e _ h1 h2 h4 h3 nht (by rw[zb];rfl) ?_ ?_ ?_ ?_ ?_
  ·rw[zh npd];exact S6 _ _ (S5 _ _ d4')
  ·rw[zh npt];exact S6 _ _ (S5 _ _ d4)
  ·rw[zh (ng h4)];exact zb
  ·rw[zh (ng h3)];exact S6 _ _ zb
  ·exact (s4.trans (Keep.of (S5.trans S6))).trans (Keep.upd _ _ _)
noncomputable def ze4(C:Addr)(k:Nat):Sp:=λvs H Q _=>∃(p dx hd td g:Addr) (v:V) (nm:Str) (n:Int) (us:List V) (u:V),vs=[.ref p]/\H p=some (.ins C dx (zc9 v nm hd td g n))/\H g=some (.tup us)/\us[k]?=some u/\Q u H
theorem zlv(Y:Ev K mg):FnOk P w K mg base CX0 1 Y.a_House_way Y.d_House_way zbT (ze4 Y.c_House 0):=by
 refine Y.House_way.fn.okQ zh3 (λvs H Q E h=>?_) (λcdv A outer s H vs Q E hr h=>?_)
 ·obtain ⟨p,dx,hd,td,g,v,nm,n,us,u,rfl,_⟩:=h;rfl
 ·obtain ⟨p,dx,hd,td,g,v,nm,n,us,u,rfl,hp,hg,hu,q⟩:=h
  refine⟨_,(zj (zz (zP ix_tup (zaR (qv 0)) zf))),?_⟩
  exact⟨_,rfl,p,_,dx,_,_,rfl,hp,Y.k_House,Y.n_House_going,zdT,g,us,0,u,rfl,rfl, .inl (.inl hg),zI (j:=0) hu,q⟩
theorem zjx(Y:Ev K mg):FnOk P w K mg base CX0 1 Y.a_House_marks Y.d_House_marks za3 (ze4 Y.c_House 1):=by
 refine Y.House_marks.fn.okQ zgj (λvs H Q E h=>?_) (λcdv A outer s H vs Q E hr h=>?_)
 ·obtain ⟨p,dx,hd,td,g,v,nm,n,us,u,rfl,_⟩:=h;rfl
 ·obtain ⟨p,dx,hd,td,g,v,nm,n,us,u,rfl,hp,hg,hu,q⟩:=h
  refine⟨_,(zj (zz (zP ix_tup (zaR (qv 0)) zf))),?_⟩
  exact⟨_,rfl,p,_,dx,_,_,rfl,hp,Y.k_House,Y.n_House_going,zdT,g,us,1,u,rfl,rfl, .inl (.inl hg),zI (j:=1) hu,q⟩
noncomputable def zes(C N:Addr):Sp:=λvs H Q _=>∃(p dx hd td g:Addr) (v:V) (nm o:Str) (n:Int) (kvs:List (Key×V)),vs=[.ref p, .str o]/\H p=some (.ins C dx (zc9 v nm hd td g n))/\H hd=some (.dK kvs)/\Q ((zal kvs (Sum.inr o)).getD (.ref N)) H
theorem zfQ(Y:Ev K mg):FnOk P w K mg base CX0 1 Y.a_House_heard Y.d_House_heard zaH (zes Y.c_House Y.a_NOTHING):=by
 refine Y.House_heard.fn.okQ zgh (λvs H Q E h=>?_) (λcdv A outer s H vs Q E hr h=>?_)
 ·obtain ⟨p,dx,hd,td,g,v,nm,o,n,kvs,rfl,_⟩:=h;rfl
 ·obtain ⟨p,dx,hd,td,g,v,nm,o,n,kvs,rfl,hp,hh,q⟩:=h
  refine⟨_,(zj (zz (zc5 (hu1 hr) (zaR (qv 0)) (qv 1) (zmn (v:= .ref Y.a_NOTHING) Y.m_NOTHING rfl)))),?_⟩
  exact⟨_,rfl,p,_,dx,_,_,rfl,hp,Y.k_House,Y.n_House_hearings,zhc,hd,rfl, .inl ⟨_, .inl hh⟩,_,rfl,_,DGet.k (k:=Sum.inr o) hh,q⟩
def zcN:Option WM->Prop
 |none=>True
 |some (w,ms)=>(∀y∈w,zi y=true)/\(∀y∈ms,zi y=true)
theorem zh4{H:Hp}{p:Addr}{xs:List Str}(e:H p=some (.tup (xs.map V.str)))(h:∀y∈xs,zi y=true):TrC K H (.ref p) (.tuple (zt xs)):=by
 refine .tup (.inl (.inl e)) (by unfold zt;rw[List.length_map,List.length_map]) λi v d e1 e2=>?_
 unfold zt at e2
 rw[List.getElem?_map] at e1 e2
 cases e3:xs[i]? with
 |none=>rw[e3] at e1;cases e1
 |some x=>rw[e3] at e1 e2;cases e1;cases e2;exact .str x (zak (h x (List.mem_of_getElem? e3)))
noncomputable def zcl:Option WM->PyData|none=> .none|some (w,_)=> .tuple (zt w)
noncomputable def zb3:Option WM->PyData|none=> .tuple []|some (_,ms)=> .tuple (zt ms)
theorem zbx{H:Hp}{x y:V}{b:Option WM}(h:WmAt H x y b)(ok:zcN b):TrC K H x (zcl b):=by
 match b,h,ok with
 |none,⟨h1,_⟩,_=>rw[h1];exact .non
 |some (w,ms),⟨pw,pm,h1,h2,h3,h4⟩,ok=>rw[h1];exact zh4 h3 ok.1
theorem zb4{H:Hp}{x y:V}{b:Option WM}(h:WmAt H x y b)(ok:zcN b):TrC K H y (zb3 b):=by
 match b,h,ok with
 |none,⟨_,e,h1,h2⟩,_=>rw[h1];exact .tup (.inl (.inl h2)) rfl λi v d e1=>by cases e1
 |some (w,ms),⟨pw,pm,h1,h2,h3,h4⟩,ok=>rw[h2];exact zh4 h4 ok.2
theorem zca{b:Option WM}:(zcl b).depth<=2:=by
 match b with
 |none=>show (PyData.none).depth<=2;rw[PyData.depth];decide
 |some (w,ms)=>show (PyData.tuple (zt w)).depth<=2;rw[PyData.depth];have:=zbN (xs:=w);omega
theorem zdi{b:Option WM}:(zcl b).depth<=60:=Nat.le_trans zca (by decide)
theorem zct{b:Option WM}:(zb3 b).depth<=2:=by
 match b with
 |none=>show (PyData.tuple []).depth<=2;rw[PyData.depth,PyData.depthAll];decide
 |some (w,ms)=>show (PyData.tuple (zt ms)).depth<=2;rw[PyData.depth];have:=zbN (xs:=ms);omega
noncomputable def zfC(C:Addr):Sp:=λvs H Q _=>∃(p dx hd td g g':Addr) (v:V) (nm:Str) (n:Int) (b b':Option WM),vs=[.ref p, .ref g']/\H p=some (.ins C dx (zc9 v nm hd td g n))/\GoR H g b/\GoR H g' b'/\zcN b/\zcN b'/\∀n':Int,Q .non (upd H p (.ins C dx (zc9 v nm hd td g' n')))
theorem zgs(Y:Ev K mg):FnOk P w K mg base CX0 1 Y.a_House_go_by Y.d_House_go_by zaF (zfC Y.c_House):=by
 refine Y.House_go_by.fn.okQ zf1 (λvs H Q E h=>?_) (λcdv A outer s H vs Q E hr h=>?_)
 ·obtain ⟨p,dx,hd,td,g,g',v,nm,n,b,b',rfl,_⟩:=h;rfl
 ·obtain ⟨p,dx,hd,td,g,g',v,nm,n,b,b',rfl,hp,⟨x,y,hg,wa⟩,⟨x',y',hg',wa'⟩,ok,ok',q⟩:=h
  refine⟨_,(zdp (zab (zA (zej (zeY hr)) (zP ix_tup (qv 1) zf) (zP ix_tup (zaR (qv 0)) zf)) (zj (zmr (qv 0) zf zm5)) zM)
   (zj (zfR (qv 0) (qv 1)))),?_⟩
  refine⟨λσ' H'=>σ'=[some (.ref p),some (.ref g')]/\∃n',H'=upd H p (.ins Y.c_House dx (zc9 v nm hd td g n')),?_,?_⟩
  ·refine ⟨_,rfl,g',_,0,_,rfl,rfl, .inl (.inl hg'),at0,_,rfl,p,_,dx,_,_,rfl,hp,Y.k_House,Y.n_House_going,zdT,g,_,0,_,rfl,rfl, .inl (.inl hg),at0,zcl b',zcl b,zbx wa' ok',zbx wa ok,Nat.le_trans (Nat.min_le_left _ _) zdi,_,rfl,zcG (λ_=>?_) (λ_=>?_)⟩
   ·exact ⟨_,rfl,p,_,dx,_,_,rfl,hp,Y.k_House,Y.n_House_times,zmM,_,_,rfl,rfl,dx,_,hp,(by decide:6<1000),rfl,_,rfl⟩
   ·exact ⟨rfl,n,by funext c;by_cases e:c=p
                    ·rw[e,zb];exact hp
                    ·rw[zh e]⟩
  ·rintro σ' H1 ⟨rfl,n',rfl⟩
   refine⟨_,rfl,_,rfl,p,_,dx,_,rfl,zb,Y.k_House,Y.n_House_going,(by decide:6<1000),?_⟩
   rw[zkj]
   exact q n'
end
section
variable{P:Program}{w:World}{K:PySem.W.Frag}{mg:Str->Option Value}{base:Heap}
theorem zhh{g:Str}{hs:List Str}{ps:List (Str×Str)}{lks hds:List D}(T:TownOk g hs ps lks hds)(hf:∀d∈hds,∃ds,d= .tup ds/\ds.length<=12){x:Str}(h:x∈hs):∃(j:Nat) (rs:List D),hs[j]?=some x/\hds[j]?=some (.tup rs)/\zv hs hds x=rs/\zg1 rs/\rs.length<=12:=by
 obtain⟨j,d,e1,e2,hm⟩:=zph T h
 obtain⟨rs,rfl,hk⟩:=zff (T.hands d hm)
 obtain⟨ds,e3,h12⟩:=hf _ hm
 cases e3
 exact⟨j,rs,e1,e2,zht T.hs_nd e1 e2,hk,h12⟩
def GoOk(nm:Str):Option WM->Prop
 |none=>True
 |some (w,ms)=>(∃ws,w=nm::ws/\ws.length<=90)/\(∀y∈w,zi y=true)/\(∀y∈ms,zi y=true)/\ms.length<=40
theorem GoOk.wm{nm:Str}{b:Option WM}(h:GoOk nm b):zcN b:=by
 match b,h with
 |none,_=>exact trivial
 |some (w,ms),⟨_,h1,h2,_⟩=>exact ⟨h1,h2⟩
theorem zjF{g:Str}{hs:List Str}{ps:List (Str×Str)}{lks hds:List D}(T:TownOk g hs ps lks hds)(hf:∀d∈hds,∃ds,d= .tup ds/\ds.length<=12){nm o:Str}(hn:nm∈hs){b:Option WM}(ok:GoOk nm b):zcN (zcr (zv hs hds nm) b o):=by
 obtain⟨j,rs,_,_,er,hk,_⟩:=zhh T hf hn
 match b,ok with
 |none,_=>exact trivial
 |some (w,ms),⟨_,h1,h2,_⟩=>
  show zcN ((zQ w (some o) (zv hs hds nm) ms).map λt=>(w,t))
  rw[er]
  cases e:zQ w (some o) rs ms with
  |none=>exact trivial
  |some t=>exact ⟨h1,zc1 hk.2 h2 e⟩
noncomputable def zgX(C:Addr):Sp:=λvs H Q _=>∃(p dx hd td ga:Addr) (v:V) (nm o:Str) (n:Int) (b:Option WM) (g:Str) (hs:List Str) (ps:List (Str×Str)) (lks hds:List D),vs=[.ref p, .str o]/\H p=some (.ins C dx (zc9 v nm hd td ga n))/\Rep H v (zaf g hs ps lks hds)/\TownOk g hs ps lks hds/\(∀d∈hds,∃ds,d= .tup ds/\ds.length<=12)/\nm∈hs/\o∈hs/\GoR H ga b/\GoOk nm b/\∀(q:Addr) (H':Hp),GoR H' q (zcr (zv hs hds nm) b o)->Same H H'->Q (.ref q) H'
theorem zju(Y:Ev K mg):FnOk P w K mg base CX0 6 Y.a_House_offer Y.d_House_offer za5 (zgX Y.c_House):=by
 have G_handed:FnOk P w K mg base CX0 5 Y.a_handed Y.d_handed zcO zel:=zfq Y
 refine Y.House_offer.fn.okQ c_House_offer (λvs H Q E h=>?_) (λcdv A outer s H vs Q E hr h=>?_)
 ·obtain ⟨p,dx,hd,td,ga,v,nm,o,n,b,g,hs,ps,lks,hds,rfl,_⟩:=h;rfl
 ·obtain ⟨p,dx,hd,td,ga,v,nm,o,n,b,g,hs,ps,lks,hds,rfl,hp,hv,T,hf,hnm,ho,⟨x,y,h1,wa⟩,ok,q⟩:=h
  refine⟨_,(zg (zcw (zaR (qv 0)) (zcV 2 rfl (zy (zr 2 c_House_offer.nd) (zy (zr 3 c_House_offer.nd) zbb))))
   (zg (zw 4 c_House_offer.nd (znt (zA zdH (qv 2) z9) z9 (zk G_handed (hr.mono (by decide)) Y.handed.mg Y.handed.kp Y.handed.b .nil zm (za (zaR (qv 0)) (za (qv 2) (za (qv 3) (za (qv 1) zc)))))))
   (zj (zz (znt (zA zdH (qv 4) z9) (zx (za z9 (za (zx zc) zc))) (zx (za (qv 2) (za (qv 4) zc)))))))),?_⟩
  refine⟨_,rfl,p,_,dx,_,_,rfl,hp,Y.k_House,Y.n_House_going,zdT,ga,_,rfl, .inl (.inl h1),rfl,_,_,rfl,_,_,rfl,rfl,?_⟩
  match b,wa,ok,q with
  |none,⟨ex,e,ey,h2⟩,_,q=>
   subst ex ey
   refine⟨_,rfl,rfl,_,rfl,zaM rfl ?_⟩
   refine⟨_,rfl,rfl,_,rfl,zaM rfl ⟨few rfl,λe2 he2=>⟨few rfl,λq2 hq2=>?_⟩⟩⟩
   exact q q2 _ ⟨.non, .ref e2,zb,rfl,e2,rfl,Same.new hq2 _ _ zb⟩ ((Same.new he2).trans (Same.new hq2))
  |some (w,ms),⟨wt,mt,ex,ey,h2,h3⟩,⟨⟨ws,ew,lw⟩,nw,nm',lm⟩,q=>
   subst ex ey ew
   obtain⟨j,rs,hj,hdj,er,hk,h12⟩:=zhh T hf hnm
   refine⟨_,rfl,rfl,_,rfl,zac rfl ?_⟩
   refine⟨_,rfl,p,_,dx,_,_,rfl,hp,Y.k_House,Y.n_House_place,zcT,_,rfl,_,rfl,_,rfl,v,wt,mt, .str o,nm,ws,ms,some o,g,hs,ps,lks,hds,j,rs,Mn 40,rfl,hv,T,hj,hdj,hk,zm0 hk (by omega),⟨nm',lm⟩,h2,h3, .inr ⟨o,rfl,rfl,T.names o ho⟩,nw,lw,λu H1 tu s1=>?_⟩
   have eo:zcr (zv hs hds nm) (some (nm::ws,ms)) o=(zQ (nm::ws) (some o) rs ms).map λt=>(nm::ws,t):=by rw[←er];rfl
   rw[eo] at q
   cases e:zQ (nm::ws) (some o) rs ms with
   |none=>
    rw[e] at tu q
    cases(show u= .non from tu)
    refine⟨_,rfl,rfl,_,rfl,zaM rfl ⟨few rfl,λe2 he2=>⟨few rfl,λq2 hq2=>?_⟩⟩⟩
    exact q q2 _ ⟨.non, .ref e2,zb,rfl,e2,rfl,Same.new hq2 _ _ zb⟩ (s1.trans ((Same.new he2).trans (Same.new hq2)))
   |some t=>
    rw[e] at tu q
    obtain⟨mp,rfl,hmp⟩:=tu
    refine⟨_,rfl,rfl,_,rfl,zac rfl ⟨_,rfl,_,rfl,few rfl,λq2 hq2=>?_⟩⟩
    have S2:=Same.new (o:= .tup [V.ref wt,V.ref mp]) hq2
    exact q q2 _ ⟨.ref wt, .ref mp,zb,wt,mp,rfl,rfl,S2 _ _ (s1 _ _ h2),S2 _ _ hmp⟩ (s1.trans S2)
def TeO(H:Hp)(v:V)(r:Hr):Prop:=∃t x y,v= .ref t/\H t=some (.tup [.int r.1,x,y])/\WmAt H x y r.2
theorem TeO.mono{H H':Hp}{v:V}{r:Hr}(h:TeO H v r)(m:∀c xs,H c=some (.tup xs)->H' c=some (.tup xs)):TeO H' v r:=let⟨t,x,y,e,h1,w⟩:=h;⟨t,x,y,e,m _ _ h1,w.mono m⟩
inductive TbL(H:Hp):List (Key×V)->Tb->Prop
 |nil:TbL H [] []
 |cons {x:Str} {v:V} {r:Hr} {kvs:List (Key×V)} {m:Tb} (h:TeO H v r) (t:TbL H kvs m):TbL H ((Sum.inr x,v)::kvs) ((x,r)::m)
theorem TbL.mono{H H':Hp}{kvs:List (Key×V)}{tm:Tb}(h:TbL H kvs tm)(m:∀c xs,H c=some (.tup xs)->H' c=some (.tup xs)):TbL H' kvs tm:=by
 induction h with
 |nil=>exact .nil
 |cons h t ih=>exact .cons (h.mono m) ih
theorem TbL.len{H:Hp}{kvs:List (Key×V)}{m:Tb}(h:TbL H kvs m):kvs.length=m.length:=by
 induction h with
 |nil=>rfl
 |cons h t ih=>rw[List.length_cons,List.length_cons,ih]
theorem TbL.look{H:Hp}{kvs:List (Key×V)}{m:Tb}(h:TbL H kvs m)(x:Str):(zu m x=none/\zal kvs (Sum.inr x)=none)\/∃r v,zu m x=some r/\zal kvs (Sum.inr x)=some v/\TeO H v r:=by
 induction h with
 |nil=>exact .inl ⟨rfl,rfl⟩
 | @cons y v r kvs m h t ih=>
   by_cases e:y=x
   ·exact .inr ⟨r,v,zaq e,zaA (by rw[e]),h⟩
   ·rw[zaK (p:=(y,r)) e,zay (p:=(Sum.inr y,v)) (λz=>e (Sum.inr.inj z))];exact ih
theorem TbL.map{H:Hp}{kvs:List (Key×V)}{m:Tb}(h:TbL H kvs m){x:Str}{v:V}{r:Hr}(hv:TeO H v r):TbL H (kvs.map λkv=>if kv.1=Sum.inr x then(kv.1,v)else kv) (m.map λp=>if p.1=x then(p.1,r)else p):=by
 induction h with
 |nil=>exact .nil
 | @cons y v' r' kvs m h t ih=>
   rw[List.map_cons,List.map_cons]
   by_cases e:y=x
   ·rw[if_pos (show(Sum.inr y:Key)=Sum.inr x by rw[e]),if_pos (show y=x from e)];exact .cons hv ih
   ·rw[if_neg (show¬(Sum.inr y:Key)=Sum.inr x from λz=>e (Sum.inr.inj z)),if_neg (show¬y=x from e)];exact .cons h ih
theorem TbL.snoc{H:Hp}{kvs:List (Key×V)}{m:Tb}(h:TbL H kvs m){x:Str}{v:V}{r:Hr}(hv:TeO H v r):TbL H (kvs ++ [(Sum.inr x,v)]) (m ++ [(x,r)]):=by
 induction h with
 |nil=>exact .cons hv .nil
 |cons h t ih=>exact .cons h ih
theorem TbL.put{H:Hp}{kvs:List (Key×V)}{m:Tb}(h:TbL H kvs m){x:Str}{v:V}{r:Hr}(hv:TeO H v r):TbL H (zO kvs (Sum.inr x) v) (zcC m x r):=by
 unfold zO zcC
 rw[zda,zcS]
 rcases h.look x with⟨e1,e2⟩|⟨r',v',e1,e2,_⟩
 ·rw[e1,e2,if_neg (by simp),if_neg (by simp)];exact h.snoc hv
 ·rw[e1,e2,if_pos (show(some v').isSome=true from rfl),if_pos (show(some r').isSome=true from rfl)];exact h.map hv
theorem zls:∀{a b:Option WM},(PyData.tuple [zcl a,zb3 a]).eqv (.tuple [zcl b,zb3 b])=decide (a=b)
 |none,none=>by
  show(PyData.tuple [.none, .tuple []]).eqv (.tuple [.none, .tuple []])=_
  rw[PyData.eqv,PyData.eqvAll,PyData.eqvAll,PyData.eqvAll,PyData.eqv,PyData.eqv,PyData.eqvAll];rfl
 |none,some (w,ms)=>by
  show(PyData.tuple [.none, .tuple []]).eqv (.tuple [.tuple (zt w), .tuple (zt ms)])=_
  rw[PyData.eqv,PyData.eqvAll,PyData.eqv];rfl
 |some (w,ms),none=>by
  show(PyData.tuple [.tuple (zt w), .tuple (zt ms)]).eqv (.tuple [.none, .tuple []])=_
  rw[PyData.eqv,PyData.eqvAll,PyData.eqv];rfl
 |some (w,ms),some (w',ms')=>by
  show(PyData.tuple [.tuple (zt w), .tuple (zt ms)]).eqv (.tuple [.tuple (zt w'), .tuple (zt ms')])=_
  rw[PyData.eqv,PyData.eqvAll,PyData.eqvAll,PyData.eqvAll,zcJ,zcJ]
  rw[Bool.eq_iff_iff]
  simp only[Bool.and_eq_true,decide_eq_true_eq,Option.some.injEq,Prod.mk.injEq]
  simp
end
section
variable{P:Program}{w:World}{K:PySem.W.Frag}{mg:Str->Option Value}{base:Heap}
theorem zav{K:PySem.W.Frag}{a b:Addr}{xs ys:List V}{H:Hp}{Q:VK}(ha:H a=some (.tup xs))(hb:H b=some (.tup ys))(hl:xs.length+ys.length<=1000)(k:∀p H',H' p=some (.tup (xs ++ys))->Same H H'->Q (.ref p) H'):zo0 K (.ref a) (.ref b) H Q:=
 ⟨a,b,xs,ys,rfl,rfl, .inl (.inl ha), .inl (.inl hb),Nat.le_of_lt (zp hl),λz=>k b H (by rw[z];exact hb) (Same.refl _),λ_ z=>k a H (by rw[z,List.append_nil];exact ha) (Same.refl _),λ_ _ p hp=>k p _ zb (Same.new hp)⟩
theorem zfc{H:Hp}{a:Addr}{x y:V}{dx dy:PyData}(e:H a=some (.tup [x,y]))(h1:TrC K H x dx)(h2:TrC K H y dy):TrC K H (.ref a) (.tuple [dx,dy]):=by
 refine .tup (.inl (.inl e)) rfl λi v d e1 e2=>?_
 match i with
 |0=>cases e1;cases e2;exact h1
 |1=>cases e1;cases e2;exact h2
 |i+2=>cases e1
theorem zgK{b b':Option WM}:min (PyData.tuple [zcl b,zb3 b]).depth (PyData.tuple [zcl b',zb3 b']).depth<=60:=by
 refine Nat.le_trans (Nat.min_le_left _ _) ?_
 rw[PyData.depth,PyData.depthAll,PyData.depthAll,PyData.depthAll]
 have h1:=zca (b:=b)
 have h2:=zct (b:=b)
 omega
def LtO(H:Hp)(v:V)(a c:Str)(r:Hr):Prop:=∃t x y,v= .ref t/\H t=some (.tup [.str a, .str c, .int r.1,x,y])/\WmAt H x y r.2
theorem LtO.mono{H H':Hp}{v:V}{a c:Str}{r:Hr}(h:LtO H v a c r)(m:∀c xs,H c=some (.tup xs)->H' c=some (.tup xs)):LtO H' v a c r:=let⟨t,x,y,e,h1,w⟩:=h;⟨t,x,y,e,m _ _ h1,w.mono m⟩
inductive LtsO(H:Hp)(nm:Str):List V->List Lt->Prop
 |nil:LtsO H nm [] []
 |cons {v:V} {l:Lt} {us:List V} {L:List Lt} (h:LtO H v nm l.1 l.2) (t:LtsO H nm us L):LtsO H nm (v::us) (l::L)
theorem LtsO.mono{H H':Hp}{nm:Str}{us:List V}{L:List Lt}(h:LtsO H nm us L)(m:∀c xs,H c=some (.tup xs)->H' c=some (.tup xs)):LtsO H' nm us L:=by
 induction h with
 |nil=>exact .nil
 |cons h t ih=>exact .cons (h.mono m) ih
theorem LtsO.append{H:Hp}{nm:Str}{us us':List V}{L L':List Lt}(h:LtsO H nm us L)(h':LtsO H nm us' L'):LtsO H nm (us ++us') (L ++L'):=by
 induction h with
 |nil=>exact h'
 |cons h t ih=>exact .cons h ih
theorem LtsO.len{H:Hp}{nm:Str}{us:List V}{L:List Lt}(h:LtsO H nm us L):us.length=L.length:=by
 induction h with
 |nil=>rfl
 |cons h t ih=>rw[List.length_cons,List.length_cons,ih]
def wmR(_:Str)(r:Hr):Prop:=zcN r.2
theorem zkt{hs:List Str}{tm:Tb}(h:TbOk hs wmR tm)(o:Str):zcN (z5 tm o):=by
 unfold z5
 cases e:zu tm o with
 |none=>exact trivial
 |some r=>exact h.look e
theorem zhJ{hs:List Str}{tm:Tb}{rs:List D}{b:Option WM}{o:Str}(h:TbOk hs wmR tm)(ho:o∈hs)(hw:zcN (zcr rs b o)):TbOk hs wmR (zbF rs b tm o):=by
 unfold zbF
 split
 ·exact h
 ·exact h.put ho hw
noncomputable def zfo(C:Addr):Sp:=λvs H Q _=>∃(p dx hd td ga:Addr) (v:V) (nm:Str) (n:Int) (b:Option WM) (kv0:List (Key×V)) (tm:Tb) (g:Str) (hs:List Str) (ps:List (Str×Str)) (lks hds:List D),vs=[.ref p]/\H p=some (.ins C dx (zc9 v nm hd td ga n))/\H td=some (.dK kv0)/\TbL H kv0 tm/\TbOk hs wmR tm/\Rep H v (zaf g hs ps lks hds)/\TownOk g hs ps lks hds/\(∀d∈hds,∃ds,d= .tup ds/\ds.length<=12)/\nm∈hs/\GoR H ga b/\GoOk nm b/\
 ∀(l:Addr) (us:List V) (kvs:List (Key×V)) (H':Hp),H l=none->H' l=some (.lst us)->LtsO H' nm us (zbr (zv hs hds nm) b tm (due hs ps nm))->H' td=some (.dK kvs)->TbL H' kvs (zbj (zv hs hds nm) b tm (due hs ps nm))->TbOk hs wmR (zbj (zv hs hds nm) b tm (due hs ps nm))->Keep td H H'->Q (.ref l) H'
theorem zgT(Y:Ev K mg):FnOk P w K mg base CX0 7 Y.a_House_letters Y.d_House_letters zad (zfo Y.c_House):=by
 have G_tied:FnOk P w K mg base CX0 1 Y.a_tied Y.d_tied zco zds:=zcZ Y
 have G_House_offer:FnOk P w K mg base CX0 6 Y.a_House_offer Y.d_House_offer za5 (zgX Y.c_House):=zju Y
 refine Y.House_letters.fn.okQ c_House_letters (λvs H Q E h=>?_) (λcdv A outer s H vs Q E hr h=>?_)
 ·obtain ⟨p,dx,hd,td,ga,v,nm,n,b,kv0,tm,g,hs,ps,lks,hds,rfl,_⟩:=h;rfl
 ·obtain ⟨p,dx,hd,td,ga,v,nm,n,b,kv0,tm,g,hs,ps,lks,hds,rfl,hp,htd,tb0,to0,hv,T,hf,hnm,G,ok,q⟩:=h
  have T10:=T.ten
  refine⟨_,(zg (zw 1 c_House_letters.nd (zcq zc))
   (zg (zb1 PassesOwn.never rfl (zeE (zk G_tied (hr.mono (by decide)) Y.tied.mg Y.tied.kp Y.tied.b .nil zm (za (zaR (qv 0)) (za (zaR (qv 0)) zc)))) (zr 2 c_House_letters.nd) (zg (zcw (zc5 (hu1 hr) (zaR (qv 0)) (qv 2) (zmn (v:= .ref Y.a_NOTHING) Y.m_NOTHING rfl)) (zcV 3 rfl (zy (zr 3 c_House_letters.nd) (zy (zr 4 c_House_letters.nd) (zy (zr 5 c_House_letters.nd) zbb)))))
   (zg (zw 6 c_House_letters.nd (zeI (qv 0) Y.k_House Y.House_offer.m G_House_offer (hr.mono (by decide)) Y.House_offer.b .nil zm (za (qv 2) zc)))
   (zj (zab (zA (zej (zeY hr)) (qv 6) (zx (za (qv 4) (za (qv 5) zc)))) (zg (zcm (hu1 hr) (zaR (qv 0)) (qv 2) (zE zb9 (zx (za (zE zY (qv 3) zf) zc)) (qv 6)))
   (zj (zcg (zga PySem.F.plainAttrs_list PySem.F.slot_list_append PySem.F.type_list_append zaZ (qv 1) (za (zE zb9 (zx (za (zaR (qv 0)) (za (qv 2) (za (zE zY (qv 3) zf) zc)))) (qv 6)) zc))))) zM)))))
   (zj (zz (qv 1))))),?_⟩
  refine⟨few rfl,λlf hlf=>?_⟩
  have S1:=Same.new (o:= .lst ([]:List V)) hlf
  have nlt:lf≠td:=Ne.symm (ze htd hlf)
  have nlp:p≠lf:=ze hp hlf
  refine⟨_,rfl,p,_,dx,_,_,rfl,S1 _ _ hp,Y.k_House,Y.n_House_place,zcT,_,rfl,p,_,dx,_,_,rfl,S1 _ _ hp,Y.k_House,Y.n_House_name,zcs,v,nm,g,hs,ps,lks,hds,rfl,hv.same S1,T,λlt ts H2 hlt ht2 tp tsr s2=>?_⟩
  have ets:=zfF T tp tsr
  have tin:∀o∈ts,o∈hs:=λo ho=>zc3 T (tp.mem_iff.mp ho)
  have tl:ts.length<=10:=by rw[tp.length_eq];exact zcM T nm
  rw[←ets] at q
  have nltt:lt≠td:=λz=>by rw[z,S1 _ _ htd] at hlt;cases hlt
  have nltf:lt≠lf:=λz=>by rw[z,zb] at hlt;cases hlt
  have offok:∀o,zcN (zcr (zv hs hds nm) b o):=λo=>zjF T hf hnm ok
  generalize ers:zv hs hds nm=rs at *
  refine⟨lt,rfl,⟨_,SqL.of ht2⟩,?_⟩
  refine zaP (zdt (K:=K) (xs:=ts.map V.str)) (λi σ' H'=>(∃o2 o3 o4 o5 o6,σ'=[some (.ref p),some (.ref lf),o2,o3,o4,o5,o6])/\H' lt=some (.lst (ts.map V.str))/\(∃kvs us,H' td=some (.dK kvs)/\TbL H' kvs (zbj rs b tm (ts.take i))/\TbOk hs wmR (zbj rs b tm (ts.take i))/\H' lf=some (.lst us)/\LtsO H' nm us (zbr rs b tm (ts.take i)))/\Keep td H H') ?_ ?_ ?_ ?_
  ·exact ⟨⟨_,_,_,_,_,rfl⟩,ht2,⟨kv0,[],s2 _ _ (S1 _ _ htd),tb0.mono λc xs e=>s2 _ _ (S1 _ _ e),to0,s2 _ _ zb, .nil⟩,Keep.of (S1.trans s2)⟩
  ·rintro i σ' H' ⟨_,h,_⟩
   exact SqL.of h
  ·rintro i y σ' H3 hi hy ⟨⟨o2,o3,o4,o5,o6,rfl⟩,ht3,⟨kvs,us,hk3,tb3,to3,hf3,R3⟩,k3⟩
   obtain⟨o,ho,rfl⟩:∃o,ts[i]?=some o/\y= .str o:=by
    rw[List.getElem?_map] at hy
    cases e:ts[i]? with
    |none=>rw[e] at hy;cases hy
    |some th=>rw[e] at hy;cases hy;exact⟨th,rfl,rfl⟩
   rw[List.length_map] at hi
   have npt:p≠td:=zB hp htd (λz=>nomatch z)
   have hp3:=k3 _ _ npt hp
   have ohs:=tin o (List.mem_of_getElem? ho)
   have tk:ts.take (i+1)=ts.take i ++ [o]:=by rw[List.take_add_one,ho];rfl
   have nl3:=zdf (rs:=rs) (b:=b) (os:=ts.take i) (tm:=tm)
   rw[List.length_take] at nl3
   rw[tk,zfk,zev]
   generalize zbj rs b tm (ts.take i)=t3 at *
   generalize zbr rs b tm (ts.take i)=L3 at *
   have kt:∀c xs,H c=some (.tup xs)->H3 c=some (.tup xs):=λc xs e=>k3 _ _ (zB e htd (λz=>nomatch z)) e
   have hv3:Rep H3 v (zaf g hs ps lks hds):=by
    refine hv.mono ⟨kt,λc xs e=>⟨xs,k3 _ _ (zB e htd (λz=>nomatch z)) e⟩,λc xs e=>?_⟩
    by_cases z:c=td
    ·rw[z];exact⟨kvs,hk3⟩
    ·exact ⟨xs,k3 _ _ z e⟩
   obtain⟨A3,x3,y3,eA,hA,tx,ty⟩:∃A x y,(zal kvs (Sum.inr o)).getD (.ref Y.a_NOTHING)= .ref A/\SqT K H3 A [.int (zcF (zu t3 o)),x,y]/\(∀H',(∀c xs,H3 c=some (.tup xs)->H' c=some (.tup xs))->TrC K H' x (zcl (z5 t3 o)))/\∀H',(∀c xs,H3 c=some (.tup xs)->H' c=some (.tup xs))->TrC K H' y (zb3 (z5 t3 o)):=by
    have wok:=zkt to3 o
    unfold z5 at wok⊢
    rcases tb3.look o with⟨e1,e2⟩|⟨r,v',e1,e2,t,x,y,rfl,ht,wa⟩
    ·rw[e1,e2]
     exact⟨Y.a_NOTHING, .non, .ref Y.e_NOTHING,rfl,Y.t_NOTHING _,λ_ _=> .non,λ_ _=> .tup (Y.u_NOTHING _) rfl λi v d e1=>by cases e1⟩
    ·rw[e1] at wok⊢
     rw[e2]
     exact⟨t,x,y,rfl, .inl (.inl ht),λH' m=>zbx (wa.mono m) wok,λH' m=>zb4 (wa.mono m) wok⟩
   refine⟨_,rfl,p,_,dx,_,_,rfl,hp3,Y.k_House,Y.n_House_tellings,zj3,td,rfl, .inl ⟨_, .inl hk3⟩,_,rfl,_,DGet.k (k:=Sum.inr o) hk3,?_⟩
   rw[eA]
   generalize enr:zcF (zu t3 o)=nr at *
   refine⟨A3,_,rfl,hA,rfl,_,_,rfl,_,_,rfl,_,_,rfl,rfl,?_⟩
   refine⟨_,rfl,p,dx,_,rfl,hp3,rfl,_,rfl,p,dx,hd,td,ga,v,nm,o,n,b,g,hs,ps,lks,hds,rfl,hp3,hv3,T,hf,hnm,ohs,G.mono kt,ok,λqa H4 O4 s4=>?_⟩
   rw[ers] at O4
   obtain⟨x4,y4,hq4,wa4⟩:=O4
   refine⟨_,rfl,_,rfl,_,rfl,few rfl,λp5 hp5=>?_⟩
   have S5:=Same.new (o:= .tup [x3,y3]) hp5
   have s35:=s4.trans S5
   have e5:(upd H4 p5 (.tup [x3,y3])) p5=some (.tup [x3,y3]):=zb
   generalize (upd H4 p5 (HO.tup [x3,y3]))=H5 at *
   have hq5:=S5 _ _ hq4
   have wa5:=wa4.mono λc xs e=>S5 _ _ e
   have m35:∀c xs,H3 c=some (.tup xs)->H5 c=some (.tup xs):=λc xs e=>s35 _ _ e
   refine⟨_,_,zfc hq5 (zbx wa5 (offok o)) (zb4 wa5 (offok o)),zfc e5 (tx H5 m35) (ty H5 m35),zgK,_,rfl,?_⟩
   rw[zls]
   by_cases eo:zcr rs b o=z5 t3 o
   ·rw[decide_eq_true eo]
    have et:zbF rs b t3 o=t3:=by unfold zbF;rw[if_pos eo]
    have en:zdP rs b t3 o=[]:=by unfold zdP;rw[if_pos eo]
    rw[et,en,List.append_nil]
    exact zac rfl ⟨⟨_,_,_,_,_,rfl⟩,s35 _ _ ht3,⟨kvs,us,s35 _ _ hk3,tb3.mono m35,to3,s35 _ _ hf3,R3.mono m35⟩,k3.trans (Keep.of s35)⟩
   rw[decide_eq_false eo]
   have et:zbF rs b t3 o=zcC t3 o (zcF (zu t3 o)+1,zcr rs b o):=by unfold zbF;rw[if_neg eo]
   have en:zdP rs b t3 o=[(o,zcF (zu t3 o)+1,zcr rs b o)]:=by unfold zdP;rw[if_neg eo]
   have tok:=zhJ (rs:=rs) (b:=b) to3 ohs (offok o)
   rw[et] at tok⊢
   rw[en]
   rw[enr] at tok⊢
   refine zaM rfl ⟨_,rfl,_,_,rfl,rfl,few rfl,λp6 hp6=>?_⟩
   have S6:=Same.new (o:= .tup [V.int (nr+1)]) hp6
   refine⟨_,rfl,zav (xs:=[V.int (nr+1)]) (ys:=[x4,y4]) zb (S6 _ _ hq5) (by decide:1+2<=1000) λp7 H7 hp7 s7=>?_⟩
   have hp7:H7 p7=some (.tup [V.int (nr+1),x4,y4]):=hp7
   have s57:=S6.trans s7
   have s37:=s35.trans s57
   have hpp7:=s37 _ _ hp3
   have hk7:=s37 _ _ hk3
   have hq7:=s57 _ _ hq5
   have hf7:=s37 _ _ hf3
   have ht7:=s37 _ _ ht3
   have wa7:=wa5.mono λc xs e=>s57 _ _ e
   have kl:=tb3.len
   have t3l:=to3.len
   refine⟨_,rfl,p,_,dx,_,_,rfl,hpp7,Y.k_House,Y.n_House_tellings,zj3,_,rfl,td,_,rfl, .inl ⟨kvs,Sum.inr o,hk7,rfl,zp (by omega),rfl⟩,?_⟩
   have nq:∀{c xs},H7 c=some (.tup xs)->c≠td:=λ{c xs} e=>zB e hk7 (λz=>nomatch z)
   have m78:∀c xs,H7 c=some (.tup xs)->upd H7 td (.dK (zO kvs (Sum.inr o) (.ref p7))) c=some (.tup xs):=λc xs e=>by rw[zh (nq e)];exact e
   have k78:Keep td H7 (upd H7 td (.dK (zO kvs (Sum.inr o) (.ref p7)))):=Keep.upd _ _ _
   have hk8:upd H7 td (.dK (zO kvs (Sum.inr o) (.ref p7))) td=some (.dK (zO kvs (Sum.inr o) (.ref p7))):=zb
   generalize (upd H7 td (.dK (zO kvs (Sum.inr o) (.ref p7))))=H8 at *
   have hf8:=k78 _ _ nlt hf7
   have hpp8:=k78 _ _ npt hpp7
   have ht8:=k78 _ _ nltt ht7
   refine⟨_,rfl, .inl ⟨rfl,_,SqL.of hf8⟩,_,rfl,p,_,dx,_,_,rfl,hpp8,Y.k_House,Y.n_House_name,zcs,_,rfl,_,rfl,_,_,rfl,rfl,few rfl,λp9 hp9=>?_⟩
   have S9:=Same.new (o:= .tup [V.str nm,V.str o,V.int (nr+1)]) hp9
   refine⟨_,rfl,zav (xs:=[V.str nm,V.str o,V.int (nr+1)]) (ys:=[x4,y4]) zb (S9 _ _ (m78 _ _ hq7)) (by decide:3+2<=1000) λpA HA hpA sA=>?_⟩
   have hpA:HA pA=some (.tup [V.str nm,V.str o,V.int (nr+1),x4,y4]):=hpA
   have s8A:=S9.trans sA
   have m7A:∀c xs,H7 c=some (.tup xs)->HA c=some (.tup xs):=λc xs e=>s8A _ _ (m78 _ _ e)
   have m3A:∀c xs,H3 c=some (.tup xs)->HA c=some (.tup xs):=λc xs e=>m7A _ _ (s37 _ _ e)
   have hfA:=s8A _ _ hf8
   have ul:=R3.len
   refine⟨lf,us,_,rfl,rfl,hfA,zp (by omega),⟨_,_,_,_,_,rfl⟩,?_,⟨zO kvs (Sum.inr o) (.ref p7),us ++ [.ref pA],?_,?_,tok,zb,?_⟩,?_⟩
   ·rw[zh nltf];exact s8A _ _ ht8
   ·rw[zh (Ne.symm nlt)];exact s8A _ _ hk8
   ·have mB:∀c xs,HA c=some (.tup xs)->upd HA lf (.lst (us ++ [.ref pA])) c=some (.tup xs):=λc xs e=>by rw[zh (zB e hfA (λz=>nomatch z))];exact e
    exact(tb3.mono λc xs e=>mB _ _ (m3A _ _ e)).put ⟨p7,x4,y4,rfl,mB _ _ (m7A _ _ hp7),wa7.mono λc xs e=>mB _ _ (m7A _ _ e)⟩
   ·have mB:∀c xs,HA c=some (.tup xs)->upd HA lf (.lst (us ++ [.ref pA])) c=some (.tup xs):=λc xs e=>by rw[zh (zB e hfA (λz=>nomatch z))];exact e
    exact(R3.mono λc xs e=>mB _ _ (m3A _ _ e)).append (.cons ⟨pA,x4,y4,rfl,mB _ _ hpA,wa7.mono λc xs e=>mB _ _ (m7A _ _ e)⟩ .nil)
   ·exact λc u nc e=>by rw[zh (ze e hlf)];exact s8A _ _ (k78 c u nc (s37 _ _ (k3 c u nc e)))
  ·rintro σ' H3 ⟨⟨o2,o3,o4,o5,o6,rfl⟩,ht3,⟨kvs,us,hk3,tb3,to3,hf3,R3⟩,k3⟩
   rw[List.length_map,List.take_length] at tb3 to3 R3
   exact⟨_,rfl,q lf us kvs H3 hlf hf3 R3 hk3 tb3 to3 k3⟩
end
section
variable{P:Program}{w:World}{K:PySem.W.Frag}{mg:Str->Option Value}{base:Heap}
theorem zdS{ws ms:List Str}:∀{rs:List D},(∀r∈rs,zS r=true)->zT ws ms rs= .non\/∃i,zT ws ms rs= .int i
 |[],_=> .inr ⟨0,rfl⟩
 |r::rs,h=>by
  rw[zT]
  by_cases z:zeX ws ms none (ziq r)=true
  ·rw[if_pos z]
   obtain⟨cs,x,rfl,_,_,hx⟩:=zgz (h r List.mem_cons_self)
   exact hx
  ·rw[if_neg z]
   exact zdS λr hr=>h r (List.mem_cons_of_mem _ hr)
theorem zg5{g:Str}{hs:List Str}{ps:List (Str×Str)}{lks hds:List D}(T:TownOk g hs ps lks hds){x:Str}(h:x∈hs):∃(j:Nat) (rs:List D),hs[j]?=some x/\lks[j]?=some (.tup rs)/\zv hs lks x=rs/\∀r∈rs,zS r=true:=by
 obtain⟨j,rs,e1,e2,hh⟩:=zpF T h
 exact⟨j,rs,e1,e2,zht T.hs_nd e1 e2,hh.2⟩
def hrR(x:Str)(r:Hr):Prop:=match r.2 with|none=>True|some (w,ms)=>(∃ws,w=x::ws)/\w.length<=10/\(∀y∈w,zi y=true)/\(∀y∈ms,zi y=true)/\ms.length<=40
theorem zhD{nm x:Str}{r:Hr}{rs:List D}{e:WM}(hn:zi nm=true)(hl:∀r∈rs,zS r=true)(h:hrR x r)(o:za1 nm rs (x,r)=some e):EOk nm rs e/\GoOk nm (some e):=by
 obtain⟨n,b⟩:=r
 cases b with
 |none=>cases o
 |some p=>
  obtain⟨w,ms⟩:=p
  have o:(if nm∈w\/zcB (zT (nm::w) ms rs)=true then none else some (nm::w,ms))=some e:=o
  by_cases c:nm∈w\/zcB (zT (nm::w) ms rs)=true
  ·rw[if_pos c] at o;cases o
  ·rw[if_neg c] at o
   cases o
   obtain⟨⟨ws,ew⟩,lw,nw,nms,lm⟩:=h
   have nw':∀y∈nm::w,zi y=true:=λy hy=>(List.mem_cons.mp hy).elim (λz=>by rw[z];exact hn) (nw y)
   refine⟨⟨⟨w,rfl⟩,nw',nms,by show(nm::w).length<=80;rw[List.length_cons];omega,by show ms.length<=100;omega,?_⟩,⟨w,rfl,by omega⟩,nw',nms,lm⟩
   rcases zdS (ws:=nm::w) (ms:=ms) hl with z|⟨i,z⟩
   ·exact absurd (.inr (by rw[z];rfl)) c
   ·show zT (nm::w) ms rs= .int (wI rs (nm::w,ms))
    rw[z];unfold wI;simp only[z]
theorem zjC{nm:Str}{rs:List D}{m:Tb}{p:Str×Hr}:zbW nm rs (m ++ [p])=zbW nm rs m ++(za1 nm rs p).toList:=by
 unfold zbW
 rw[List.filterMap_append]
 congr 1
theorem TbL.get{H:Hp}{kvs:List (Key×V)}{m:Tb}(h:TbL H kvs m):∀{i:Nat} {v:V},(kvs.map (·.2))[i]?=some v->∃p,m[i]?=some p/\TeO H v p.2:=by
 induction h with
 |nil=>intro i v e;cases e
 | @cons x v' r kvs m h t ih=>
   intro i v e
   cases i with
   |zero=>cases e;exact⟨_,rfl,h⟩
   |succ i=>exact ih e
theorem zku{x:Str}{w:List Str}:(w.any λy=>decide (y=x))=decide (x∈w):=by
 rw[Bool.eq_iff_iff,decide_eq_true_iff,List.any_eq_true]
 exact⟨λ⟨y,hy,e⟩=>by rw[←of_decide_eq_true e];exact hy,λh=>⟨_,h,decide_eq_true rfl⟩⟩
theorem PairO.mono{H H':Hp}{b:Addr}{e:WM}(h:PairO H b e)(m:∀c xs,H c=some (.tup xs)->H' c=some (.tup xs)):PairO H' b e:=let⟨pw,pm,h1,h2,h3⟩:=h;⟨pw,pm,m _ _ h1,m _ _ h2,m _ _ h3⟩
theorem Rep.monoT{H H':Hp}{v:V}{d:D}(h:Rep H v d)(m:∀c xs,H c=some (.tup xs)->H' c=some (.tup xs)):okD d=true->Rep H' v d:=by
 induction h with
 |non=>exact λ_=> .non
 |bl b=>exact λ_=> .bl b
 |int i=>exact λ_=> .int i
 |str x h=>exact λ_=> .str x h
 |tup h l b r ih=>
  intro o
  rw[okD] at o
  exact .tup (m _ _ h) l b λi v d e1 e2=>ih i v d e1 e2 (zkc o d (List.mem_of_getElem? e2))
 |lst h=>intro o;cases o
 |dK h=>intro o;cases o
theorem zH{H H':Hp}{v:V}{g:Str}{hs:List Str}{ps:List (Str×Str)}{lks hds:List D}(h:Rep H v (zaf g hs ps lks hds))(T:TownOk g hs ps lks hds)(m:∀c xs,H c=some (.tup xs)->H' c=some (.tup xs)):Rep H' v (zaf g hs ps lks hds):=Rep.monoT h m (zmS T (by have:=T.lp;omega)).1
noncomputable def zhZ(C:Addr):Sp:=λvs H Q _=>∃(p dx hd td ga:Addr) (v:V) (nm:Str) (n:Int) (kh:List (Key×V)) (hm:Tb) (g:Str) (hs:List Str) (ps:List (Str×Str)) (lks hds:List D),vs=[.ref p]/\H p=some (.ins C dx (zc9 v nm hd td ga n))/\H hd=some (.dK kh)/\TbL H kh hm/\TbOk hs hrR hm/\Rep H v (zaf g hs ps lks hds)/\TownOk g hs ps lks hds/\nm∈hs/\
 ∀(l:Addr) (us:List V) (H':Hp),H l=none->H' l=some (.lst us)->AtG PairO H' us (zbW nm (zv hs lks nm) hm)->Same H H'->Q (.ref l) H'
theorem zk2(Y:Ev K mg):FnOk P w K mg base CX0 6 Y.a_House_open_ways Y.d_House_open_ways zai (zhZ Y.c_House):=by
 have G_worth:FnOk P w K mg base CX0 5 Y.a_worth Y.d_worth zc4 ze7:=zfn Y
 refine Y.House_open_ways.fn.okQ c_House_open_ways (λvs H Q E h=>?_) (λcdv A outer s H vs Q E hr h=>?_)
 ·obtain ⟨p,dx,hd,td,ga,v,nm,n,kh,hm,g,hs,ps,lks,hds,rfl,_⟩:=h;rfl
 ·obtain ⟨p,dx,hd,td,ga,v,nm,n,kh,hm,g,hs,ps,lks,hds,rfl,hp,hhd,tb,tok,hv,T,hnm,q⟩:=h
  have T10:=T.ten
  have hml:=tok.len
  obtain⟨j,rs,hj,hlj,er,hlk⟩:=zg5 T hnm
  rw[er] at q
  have hnn:=T.names nm hnm
  refine⟨_,(zg (zw 1 c_House_open_ways.nd (zcq zc))
   (zg (zb1 PassesOwn.never rfl (zo7 (zaR (qv 0))) (zcV 3 rfl (zy (zr 2 c_House_open_ways.nd) (zy (zr 3 c_House_open_ways.nd) (zy (zr 4 c_House_open_ways.nd) zbb)))) (zg (zab (t_w (zk6 (zA zdH (qv 3) z9) (zgr (zA zeo (zaR (qv 0)) (qv 3))))) (zj zlF) zM)
   (zj (zab (zA zdu (zk G_worth (hr.mono (by decide)) Y.worth.mg Y.worth.kp Y.worth.b .nil zm (za (zaR (qv 0)) (za (zE zb9 (zx (za (zaR (qv 0)) zc)) (qv 3)) (za (qv 4) zc)))) z9) (zj (zcg (zga PySem.F.plainAttrs_list PySem.F.slot_list_append PySem.F.type_list_append zaZ (qv 1) (za (zx (za (zE zb9 (zx (za (zaR (qv 0)) zc)) (qv 3)) (za (qv 4) zc))) zc)))) zM))))
   (zj (zz (zpH (qv 1)))))),?_⟩
  refine⟨few rfl,λlf hlf=>?_⟩
  have S1:=Same.new (o:= .lst ([]:List V)) hlf
  have nlh:lf≠hd:=Ne.symm (ze hhd hlf)
  have nph:p≠hd:=zB hp hhd (λz=>nomatch z)
  refine⟨_,rfl,p,_,dx,_,_,rfl,S1 _ _ hp,Y.k_House,Y.n_House_hearings,zhc,hd,kh,rfl,S1 _ _ hhd,λob nd=>?_⟩
  refine zaP zqD (λi σ' H'=>(∃o2 o3 o4,σ'=[some (.ref p),some (.ref lf),o2,o3,o4])/\H' hd=some (.frz ob (.dK kh))/\(∃us,H' lf=some (.lst us)/\AtG PairO H' us (zbW nm rs (hm.take i)))/\(∀c o,c≠hd->H c=some o->H' c=some o)) ?_ ?_ ?_ ?_
  ·refine ⟨⟨_,_,_,rfl⟩,zb,⟨[],?_,rfl,λi v p e=>by cases e⟩,λc o n e=>?_⟩
   ·rw[zh nlh];exact zb
   ·rw[zh n];exact S1 _ _ e
  ·exact λi σ' H' z=>z.2.1
  ·rintro i y σ' H3 hi hy ⟨⟨o2,o3,o4,rfl⟩,hz3,⟨us,hf3,R3⟩,k3⟩
   obtain⟨pr,ep,t,x,yy,rfl,ht,wa⟩:=tb.get hy
   have hpr:=List.mem_of_getElem? ep
   have hok:=(tok.mem pr hpr).2
   have tk:hm.take (i+1)=hm.take i ++ [pr]:=by rw[List.take_add_one,ep];rfl
   have lo:(zbW nm rs (hm.take i)).length<=10:=Nat.le_trans (List.length_filterMap_le _ _) (by rw[List.length_take];omega)
   rw[tk,zjC]
   have kt:∀c xs,H c=some (.tup xs)->H3 c=some (.tup xs):=λc xs e=>k3 _ _ (zB e hhd (λz=>nomatch z)) e
   have hp3:=k3 _ _ nph hp
   have wa3:=wa.mono kt
   have ht3:=kt _ _ ht
   have ul:=R3.1
   generalize zbW nm rs (hm.take i)=es at *
   obtain⟨px,nr,b⟩:=pr
   refine⟨t,_,rfl, .inl (.inl ht3),rfl,_,_,rfl,_,_,rfl,_,_,rfl,rfl,?_⟩
   match b,wa3,hok with
   |none,⟨ex,e,ey,h2⟩,_=>
    subst ex ey
    refine⟨_,rfl,rfl,_,rfl,zaM rfl (zaM rfl ⟨⟨_,_,_,rfl⟩,hz3,⟨us,hf3,?_⟩,k3⟩)⟩
    show AtG PairO H3 us (es ++ [])
    rw[List.append_nil];exact R3
   |some (w,ms),⟨pw,pm,ex,ey,h2,h3⟩,hok=>
    subst ex ey
    obtain⟨⟨ws,ew⟩,lw,nw,nms,lm⟩:=id hok
    refine⟨_,rfl,rfl,_,rfl,zac rfl ?_⟩
    refine⟨_,rfl,p,_,dx,_,_,rfl,hp3,Y.k_House,Y.n_House_name,zcs,_,rfl,pw,_,rfl, .inr (.inl (.inl h2)),rfl,zcP,_,rfl,?_⟩
    rw[zeh,zku]
    have oe:za1 nm rs (px,nr,some (w,ms))=if nm∈w\/zcB (zT (nm::w) ms rs)=true then none else some (nm::w,ms):=rfl
    by_cases c:nm∈w
    ·rw[decide_eq_true c]
     refine zaM rfl ⟨⟨_,_,_,rfl⟩,hz3,⟨us,hf3,?_⟩,k3⟩
     rw[oe,if_pos (.inl c)]
     show AtG PairO H3 us (es ++ [])
     rw[List.append_nil];exact R3
    rw[decide_eq_false c]
    refine zac rfl ?_
    refine⟨_,rfl,p,_,dx,_,_,rfl,hp3,Y.k_House,Y.n_House_place,zcT,_,rfl,p,_,dx,_,_,rfl,hp3,Y.k_House,Y.n_House_name,zcs,few rfl,λb1 hb1=>?_⟩
    have B1:=Same.new (o:= .tup [V.str nm]) hb1
    refine⟨_,rfl,zav (xs:=[V.str nm]) (ys:=w.map V.str) zb (B1 _ _ h2) (by rw[List.length_map];show 1+_<=_;omega) λb2 H4 hb2 s4=>?_⟩
    have hb2:H4 b2=some (.tup ((nm::w).map V.str)):=hb2
    have s34:=B1.trans s4
    have nw':∀y∈nm::w,zi y=true:=λy hy=>(List.mem_cons.mp hy).elim (λz=>by rw[z];exact hnn) (nw y)
    have hv4:Rep H4 v (zaf g hs ps lks hds):=(zH hv T kt).same s34
    refine⟨_,rfl,v,b2,pm,nm,w,ms,g,hs,ps,lks,hds,j,rs,rfl,hv4,T,hj,hlj,hb2,s34 _ _ h3,nw',nms,by omega,by omega,λu H5 ru s5=>⟨rfl,_,rfl,?_⟩⟩
    rw[znK ru]
    have s35:=s34.trans s5
    cases eb:zcB (zT (nm::w) ms rs)with
    |true=>
     refine zac rfl ⟨⟨_,_,_,rfl⟩,s35 _ _ hz3,⟨us,s35 _ _ hf3,?_⟩,λc o n e=>s35 _ _ (k3 c o n e)⟩
     rw[oe,if_pos (.inr eb)]
     show AtG PairO H5 us (es ++ [])
     rw[List.append_nil];exact AtG.mono R3 λc e h=>PairO.mono h λc xs e=>s35 _ _ e
    |false=>
     have hp5:=s35 _ _ hp3
     have hf5:=s35 _ _ hf3
     refine zaM rfl ⟨_,rfl, .inl ⟨rfl,_,SqL.of hf5⟩,_,rfl,p,_,dx,_,_,rfl,hp5,Y.k_House,Y.n_House_name,zcs,few rfl,λb6 hb6=>?_⟩
     have B6:=Same.new (o:= .tup [V.str nm]) hb6
     refine⟨_,rfl,zav (xs:=[V.str nm]) (ys:=w.map V.str) zb (B6 _ _ (s35 _ _ h2)) (by rw[List.length_map];show 1+_<=_;omega) λb7 H7 hb7 s7=>?_⟩
     have hb7:H7 b7=some (.tup ((nm::w).map V.str)):=hb7
     refine⟨_,rfl,few rfl,λb8 hb8=>?_⟩
     have B8:=Same.new (o:= .tup [V.ref b7,V.ref pm]) hb8
     have s38:=((s35.trans B6).trans s7).trans B8
     have e8:(upd H7 b8 (.tup [V.ref b7,V.ref pm])) b8=some (.tup [V.ref b7,V.ref pm]):=zb
     have hb78:=B8 _ _ hb7
     generalize (upd H7 b8 (HO.tup [V.ref b7,V.ref pm]))=H8 at *
     have hf8:=s38 _ _ hf3
     have up:∀c xs,H8 c=some (.tup xs)->upd H8 lf (.lst (us ++ [.ref b8])) c=some (.tup xs):=λc xs e=>by rw[zh (zB e hf8 (λz=>nomatch z))];exact e
     refine⟨lf,us,_,rfl,rfl,hf8,zp (by omega),⟨_,_,_,rfl⟩,?_,⟨us ++ [.ref b8],zb,?_⟩,λc o n e=>?_⟩
     ·rw[zh (Ne.symm nlh)];exact s38 _ _ hz3
     ·rw[oe,if_neg (λz=>z.elim c (λz=>by rw[eb] at z;cases z))]
      exact AtG.snoc (AtG.mono R3 λc e h=>PairO.mono h λc xs e=>up _ _ (s38 _ _ e)) ⟨b7,pm,up _ _ e8,up _ _ hb78,up _ _ (s38 _ _ h3)⟩
     ·rw[zh (ze e hlf)];exact s38 _ _ (k3 c o n e)
  ·rintro σ' H3 ⟨⟨o2,o3,o4,rfl⟩,hz3,⟨us,hf3,R3⟩,k3⟩
   rw[List.length_map,tb.len,List.take_length] at R3
   refine⟨_,rfl,hd,ob, .dK kh,hz3,(λo' u' z=>by have z:H hd=some (.frz o' u'):=z;rw[hhd] at z;cases z),?_⟩
   have up:∀c xs,H3 c=some (.tup xs)->upd H3 hd (.dK kh) c=some (.tup xs):=λc xs e=>by rw[zh (zB e hz3 (λz=>nomatch z))];exact e
   refine q lf us _ hlf (by rw[zh nlh];exact hf3) (AtG.mono R3 λc e h=>PairO.mono h up) λc o e=>?_
   by_cases z:c=hd
   ·rw[z,zb];rw[z,hhd] at e;exact e
   ·rw[zh z];exact k3 c o z e
end
section
variable{P:Program}{w:World}{K:PySem.W.Frag}{mg:Str->Option Value}{base:Heap}
structure HsAt(C:Addr)(hs:List Str)(H:Hp)(p dx hd td ga:Addr)(v:V)(nm:Str)(n:Int)(b:Option WM)(kh:List (Key×V))(hm:Tb)(kt:List (Key×V))(tm:Tb):Prop where
 hp:H p=some (.ins C dx (zc9 v nm hd td ga n))
 hh:H hd=some (.dK kh)
 th:TbL H kh hm
 oh:TbOk hs hrR hm
 ht:H td=some (.dK kt)
 tt:TbL H kt tm
 ot:TbOk hs wmR tm
 gr:GoR H ga b
 go:GoOk nm b
 ne:hd≠td
structure HInv(g nm:Str)(lrs hrs:List D)(os:List Str)(b:Option WM)(hm tm:Tb)(L:List Lt):Prop where
 goal:nm=g->b=some ([nm],[])
 best:nm≠g->zbt lrs (zbW nm lrs hm) b
 told:∀o∈os,z5 tm o=zcr hrs b o
 last:∀y,zd7 L y=z5 tm y
noncomputable def zgt(C:Addr):Sp:=λvs H Q _=>∃(p dx hd td ga:Addr) (v:V) (nm:Str) (n:Int) (g:Str) (hs:List Str) (ps:List (Str×Str)) (lks hds:List D),vs=[.ref p]/\HsAt C hs H p dx hd td ga v nm n none [] [] [] []/\Rep H v (zaf g hs ps lks hds)/\TownOk g hs ps lks hds/\(∀d∈hds,∃ds,d= .tup ds/\ds.length<=12)/\nm∈hs/\
 ∀(l ga':Addr) (us:List V) (n':Int) (b:Option WM) (kt:List (Key×V)) (tm:Tb) (L:List Lt) (H':Hp),H l=none->H' l=some (.lst us)->LtsO H' nm us L->HsAt C hs H' p dx hd td ga' v nm n' b [] [] kt tm->HInv g nm (zv hs lks nm) (zv hs hds nm) (due hs ps nm) b [] tm L->(∀c o,c≠p->c≠hd->c≠td->H c=some o->H' c=some o)->L.length<=10->L=zbr (zv hs hds nm) b [] (due hs ps nm)->tm=zbj (zv hs hds nm) b [] (due hs ps nm)->Q (.ref l) H'
theorem zcH{H:Hp}{v:V}{g:Str}{hs:List Str}{ps:List (Str×Str)}{lks hds:List D}(h:Rep H v (zaf g hs ps lks hds)):∃pt us,v= .ref pt/\H pt=some (.tup us)/\us[0]?=some (.str g):=by
 obtain⟨pt,us,rfl,hp,rr,_⟩:=h.ofT
 have h0:0<us.length:=by rw[rr.1];exact Nat.zero_lt_succ _
 have:=rr.2 0 us[0] (.str g) (List.getElem?_eq_getElem h0) rfl
 refine⟨pt,us,rfl,hp,?_⟩
 rw[List.getElem?_eq_getElem h0]
 cases hh:us[0] with
 |str y=>rw[hh] at this;cases this;rfl
 |_=>rw[hh] at this;cases this
theorem zjA(Y:Ev K mg):FnOk P w K mg base CX0 8 Y.a_House_begin Y.d_House_begin za4 (zgt Y.c_House):=by
 have G_House_letters:FnOk P w K mg base CX0 7 Y.a_House_letters Y.d_House_letters zad (zfo Y.c_House):=zgT Y
 have G_House_go_by:FnOk P w K mg base CX0 1 Y.a_House_go_by Y.d_House_go_by zaF (zfC Y.c_House):=zgs Y
 refine Y.House_begin.fn.okQ zf9 (λvs H Q E h=>?_) (λcdv A outer s H vs Q E hr h=>?_)
 ·obtain ⟨p,dx,hd,td,ga,v,nm,n,g,hs,ps,lks,hds,rfl,_⟩:=h;rfl
 ·obtain ⟨p,dx,hd,td,ga,v,nm,n,g,hs,ps,lks,hds,rfl,A0,hv,T,hf,hnm,q⟩:=h
  obtain⟨pt,us,rfl,hpt,h0⟩:=zcH hv
  have hp:=A0.hp
  have npt:p≠td:=zB hp A0.ht (λz=>nomatch z)
  have nph:p≠hd:=zB hp A0.hh (λz=>nomatch z)
  refine⟨_,(zdp (zab (zA zaO (zaR (qv 0)) (zP ix_tup (zaR (qv 0)) zf)) (zj (zcg (zeI (qv 0) Y.k_House Y.House_go_by.m G_House_go_by (hr.mono (by decide)) Y.House_go_by.b .nil zm (za (zx (za (zx (za (zaR (qv 0)) zc)) (za (zx zc) zc))) zc)))) zM)
   (zj (zz (zcX (qv 0) Y.k_House Y.House_letters.m G_House_letters (hr.mono (by decide)) Y.House_letters.b .nil zm)))),?_⟩
  refine⟨λσ' H'=>σ'=[some (.ref p)]/\∃ga' n' b,H' p=some (.ins Y.c_House dx (zc9 (.ref pt) nm hd td ga' n'))/\GoR H' ga' b/\GoOk nm b/\(nm=g->b=some ([nm],[]))/\(nm≠g->b=none)/\Keep p H H',?_,?_⟩
  ·refine ⟨_,rfl,p,_,dx,_,_,rfl,hp,Y.k_House,Y.n_House_name,zcs,_,rfl,p,_,dx,_,_,rfl,hp,Y.k_House,Y.n_House_place,zcT,pt,us,0,_,rfl,rfl, .inl (.inl hpt),zI (j:=0) h0,rfl,_,rfl,?_⟩
   rw[show decide (V.str nm=V.str g)=decide (nm=g)from decide_eq_decide.mpr ⟨λz=>by injection z,λz=>by rw[z]⟩]
   by_cases e:nm=g
   ·rw[decide_eq_true e]
    refine zaM rfl ⟨_,rfl,p,dx,_,rfl,hp,rfl,_,rfl,p,_,dx,_,_,rfl,hp,Y.k_House,Y.n_House_name,zcs,few rfl,λwt hwt=>⟨few rfl,λmt hmt=>⟨few rfl,λg' hg'=>?_⟩⟩⟩
    have S1:=Same.new (o:= .tup [V.str nm]) hwt
    have S2:=Same.new (o:= .tup ([]:List V)) hmt
    have S3:=Same.new (o:= .tup [V.ref wt,V.ref mt]) hg'
    have s13:=S1.trans (S2.trans S3)
    have hp3:=s13 _ _ hp
    have e1:=S3 _ _ (S2 _ _ (zb (H:=H) (a:=wt) (o:= .tup [V.str nm])))
    have e2:=S3 _ _ (zb (H:=upd H wt (.tup [V.str nm])) (a:=mt) (o:= .tup ([]:List V)))
    have gok:GoOk nm (some ([nm],[])):=⟨⟨[],rfl,Nat.zero_le _⟩,λy hy=>by rw[List.mem_singleton.mp hy];exact T.names nm hnm,(λ_ z=>nomatch z),Nat.zero_le _⟩
    have G3:GoR (upd (upd (upd H wt (.tup [V.str nm])) mt (.tup ([]:List V))) g' (.tup [V.ref wt,V.ref mt])) g' (some ([nm],[])):=⟨_,_,zb,wt,mt,rfl,rfl,e1,e2⟩
    refine⟨p,dx,hd,td,ga,g', .ref pt,nm,n,none,some ([nm],[]),rfl,hp3,A0.gr.mono λc xs e=>s13 _ _ e,G3,trivial,gok.wm,λn'=>⟨rfl,g',n',_,zb,G3.mono λc xs e=>?_,gok,λ_=>rfl,λz=>absurd e z,(Keep.of s13).trans (Keep.upd _ _ _)⟩⟩
    rw[zh (zB e hp3 (λz=>nomatch z))];exact e
   ·rw[decide_eq_false e]
    exact zac rfl ⟨rfl,ga,n,none,hp,A0.gr,trivial,λz=>absurd z e,λ_=>rfl,Keep.refl _ _⟩
  ·rintro σ' H1 ⟨rfl,ga',n',b,hp1,G1,gok,eg,eg',k1⟩
   have htd1:=k1 _ _ (Ne.symm npt) A0.ht
   have m1:∀c xs,H c=some (.tup xs)->H1 c=some (.tup xs):=λc xs e=>k1 _ _ (zB e hp (λz=>nomatch z)) e
   have hv1:=zH hv T m1
   refine⟨_,rfl,p,dx,_,rfl,hp1,rfl,p,dx,hd,td,ga', .ref pt,nm,n',b,[],[],g,hs,ps,lks,hds,rfl,hp1,htd1, .nil, .nil,hv1,T,hf,hnm,G1,gok,λl us2 kt H2 hl hl2 R2 htd2 tb2 tok2 k2=>?_⟩
   have hl0:H l=none:=by
    cases z:H l with
    |none=>rfl
    |some u=>
     by_cases y:l=p
     ·rw[y,hp1] at hl;cases hl
     ·rw[k1 l u y z] at hl;cases hl
   have dl:∀{hr:List D} {b:Option WM} {tm:Tb},(zbr hr b tm (due hs ps nm)).length<=10:=λ{hr b tm}=>Nat.le_trans zdf (Nat.le_trans (List.length_filter_le _ _) T.ten)
   have m2:∀c xs,H1 c=some (.tup xs)->H2 c=some (.tup xs):=λc xs e=>k2 _ _ (zB e htd1 (λz=>nomatch z)) e
   refine q l ga' us2 n' b kt _ _ H2 hl0 hl2 R2 ⟨k2 _ _ npt hp1,k2 _ _ A0.ne (k1 _ _ (Ne.symm nph) A0.hh), .nil, .nil,htd2,tb2,tok2,G1.mono m2,gok,A0.ne⟩ ⟨eg,λz=>?_,λo ho=>by rw[zdJ,if_pos ho],?_⟩ (λc o n1 n2 n3 e=>k2 c o n3 (k1 c o n1 e)) dl rfl rfl
   ·rw[eg' z];rfl
   ·exact zew (T:=[]) λy=>rfl
theorem zgD{nm:Str}{rs:List D}{p:Str×Hr}{e:WM}(h:hrR p.1 p.2)(o:za1 nm rs p=some e):∃ws,e.1=nm::p.1::ws:=by
 obtain⟨x,n,b⟩:=p
 cases b with
 |none=>cases o
 |some q=>
  obtain⟨w,ms⟩:=q
  have o:(if nm∈w\/zcB (zT (nm::w) ms rs)=true then none else some (nm::w,ms))=some e:=o
  by_cases c:nm∈w\/zcB (zT (nm::w) ms rs)=true
  ·rw[if_pos c] at o;cases o
  ·rw[if_neg c] at o
   cases o
   obtain⟨⟨ws,ew⟩,_⟩:=h
   exact⟨ws,by show nm::w=_;rw[ew]⟩
theorem zfL{nm:Str}{rs:List D}:∀{m:Tb},(m.map (·.1)).Nodup->(∀p∈m,hrR p.1 p.2)->((zbW nm rs m).map (·.1)).Nodup
 |[],_,_=>List.nodup_nil
 |p::m,nd,h=>by
  rw[List.map_cons,List.nodup_cons] at nd
  have ih:=zfL (nm:=nm) (rs:=rs) (m:=m) nd.2 λp hp=>h p (List.mem_cons_of_mem _ hp)
  show((List.filterMap (za1 nm rs) (p::m)).map (·.1)).Nodup
  cases e:za1 nm rs p with
  |none=>rw[List.filterMap_cons_none e];exact ih
  |some w=>
   rw[List.filterMap_cons_some e,List.map_cons,List.nodup_cons]
   refine⟨λz=>?_,ih⟩
   obtain⟨w',hw',ew⟩:=List.mem_map.mp z
   obtain⟨p',hp',e'⟩:=List.mem_filterMap.mp hw'
   obtain⟨ws,h1⟩:=zgD (h p List.mem_cons_self) e
   obtain⟨ws',h2⟩:=zgD (h p' (List.mem_cons_of_mem _ hp')) e'
   rw[h1,h2] at ew
   injection ew with _ ew
   injection ew with ew _
   exact nd.1 (by rw[←ew];exact List.mem_map.mpr ⟨p',hp',rfl⟩)
noncomputable def zfO(C:Addr):Sp:=λvs H Q _=>∃(p dx hd td ga:Addr) (v:V) (nm:Str) (n:Int) (b:Option WM) (kh kt:List (Key×V)) (hm tm:Tb) (L0:List Lt) (g:Str) (hs:List Str) (ps:List (Str×Str)) (lks hds:List D),vs=[.ref p]/\HsAt C hs H p dx hd td ga v nm n b kh hm kt tm/\(nm=g->b=some ([nm],[]))/\(∀y,zd7 L0 y=z5 tm y)/\Rep H v (zaf g hs ps lks hds)/\TownOk g hs ps lks hds/\(∀d∈hds,∃ds,d= .tup ds/\ds.length<=12)/\nm∈hs/\
 ∀(l ga':Addr) (us:List V) (n':Int) (b':Option WM) (kt':List (Key×V)) (tm':Tb) (L:List Lt) (H':Hp),H l=none->H' l=some (.lst us)->LtsO H' nm us L->HsAt C hs H' p dx hd td ga' v nm n' b' kh hm kt' tm'->HInv g nm (zv hs lks nm) (zv hs hds nm) (due hs ps nm) b' hm tm' (L0 ++L)->(∀c o,c≠p->c≠td->H c=some o->H' c=some o)->L.length<=10->L=zbr (zv hs hds nm) b' tm (due hs ps nm)->tm'=zbj (zv hs hds nm) b' tm (due hs ps nm)->Q (.ref l) H'
theorem ziv(Y:Ev K mg):FnOk P w K mg base CX0 8 Y.a_House_choose Y.d_House_choose zaQ (zfO Y.c_House):=by
 have G_House_letters:FnOk P w K mg base CX0 7 Y.a_House_letters Y.d_House_letters zad (zfo Y.c_House):=zgT Y
 have G_House_go_by:FnOk P w K mg base CX0 1 Y.a_House_go_by Y.d_House_go_by zaF (zfC Y.c_House):=zgs Y
 have G_House_open_ways:FnOk P w K mg base CX0 6 Y.a_House_open_ways Y.d_House_open_ways zai (zhZ Y.c_House):=zk2 Y
 have G_most_liked:FnOk P w K mg base CX0 7 Y.a_most_liked Y.d_most_liked zbv zqJ:=zgl Y
 refine Y.House_choose.fn.okQ zfU (λvs H Q E h=>?_) (λcdv A outer s H vs Q E hr h=>?_)
 ·obtain ⟨p,dx,hd,td,ga,v,nm,n,b,kh,kt,hm,tm,L0,g,hs,ps,lks,hds,rfl,_⟩:=h;rfl
 ·obtain ⟨p,dx,hd,td,ga,v,nm,n,b,kh,kt,hm,tm,L0,g,hs,ps,lks,hds,rfl,A0,eg,lst,hv,T,hf,hnm,q⟩:=h
  obtain⟨pt,us,rfl,hpt,h0⟩:=zcH hv
  have hp:=A0.hp
  have npt:p≠td:=zB hp A0.ht (λz=>nomatch z)
  have nph:p≠hd:=zB hp A0.hh (λz=>nomatch z)
  obtain⟨j,rs,hj,hlj,er,hlk⟩:=zg5 T hnm
  have hml:=A0.oh.len
  have T10:=T.ten
  rw[er] at q
  refine⟨_,(zdp (zab (zA zib (zaR (qv 0)) (zP ix_tup (zaR (qv 0)) zf)) (zj (zcg (zeI (qv 0) Y.k_House Y.House_go_by.m G_House_go_by (hr.mono (by decide)) Y.House_go_by.b .nil zm (za (zk G_most_liked (hr.mono (by decide)) Y.most_liked.mg Y.most_liked.kp Y.most_liked.b .nil zm (za (zaR (qv 0)) (za (zcX (qv 0) Y.k_House Y.House_open_ways.m G_House_open_ways (hr.mono (by decide)) Y.House_open_ways.b .nil zm) zc))) zc)))) zM)
   (zj (zz (zcX (qv 0) Y.k_House Y.House_letters.m G_House_letters (hr.mono (by decide)) Y.House_letters.b .nil zm)))),?_⟩
  refine⟨λσ' H'=>σ'=[some (.ref p)]/\∃ga' n' b',H' p=some (.ins Y.c_House dx (zc9 (.ref pt) nm hd td ga' n'))/\GoR H' ga' b'/\GoOk nm b'/\(nm=g->b'=some ([nm],[]))/\(nm≠g->zbt rs (zbW nm rs hm) b')/\Keep p H H',?_,?_⟩
  ·refine ⟨_,rfl,p,_,dx,_,_,rfl,hp,Y.k_House,Y.n_House_name,zcs,_,rfl,p,_,dx,_,_,rfl,hp,Y.k_House,Y.n_House_place,zcT,pt,us,0,_,rfl,rfl, .inl (.inl hpt),zI (j:=0) h0,rfl,_,rfl,?_⟩
   rw[show decide (V.str nm=V.str g)=decide (nm=g)from decide_eq_decide.mpr ⟨λz=>by injection z,λz=>by rw[z]⟩]
   by_cases e:nm=g
   ·rw[decide_eq_true e]
    exact zac rfl ⟨rfl,ga,n,b,hp,A0.gr,A0.go,eg,λz=>absurd e z,Keep.refl _ _⟩
   ·rw[decide_eq_false e]
    have uq:=zfL (nm:=nm) (rs:=rs) A0.oh.nd λp hp=>(A0.oh.mem p hp).2
    refine zaM rfl ⟨_,rfl,p,dx,_,rfl,hp,rfl,_,rfl,p,_,dx,_,_,rfl,hp,Y.k_House,Y.n_House_place,zcT,_,rfl,p,dx,_,rfl,hp,rfl,p,dx,hd,td,ga, .ref pt,nm,n,kh,hm,g,hs,ps,lks,hds,rfl,hp,A0.hh,A0.th,A0.oh,hv,T,hnm,λl us' H1 hl hl1 R1 s1=>?_⟩
    rw[er] at R1
    refine⟨.ref pt,l,us',zbW nm rs hm,nm,g,hs,ps,lks,hds,j,rs,rfl,hv.same s1,T,hj,hlj,hl1,R1,?_,uq,λe he=>?_,λg' b' H2 be G2 s2=>?_⟩
    ·exact Nat.lt_of_le_of_lt (List.length_filterMap_le _ _) (by omega)
    ·obtain ⟨x,r,lk,o⟩:=(zdx A0.oh.nd).mp he
     exact(zhD (T.names nm hnm) hlk (A0.oh.look lk) o).1
    have s12:=s1.trans s2
    have gok:GoOk nm b':=by
     cases b' with
     |none=>exact trivial
     |some e=>
      obtain⟨x,r,lk,o⟩:=(zdx A0.oh.nd).mp be.1
      exact(zhD (T.names nm hnm) hlk (A0.oh.look lk) o).2
    have hp2:=s12 _ _ hp
    refine⟨p,dx,hd,td,ga,g', .ref pt,nm,n,b,b',rfl,hp2,A0.gr.mono λc xs e=>s12 _ _ e,G2,A0.go.wm,gok.wm,λn'=>⟨rfl,g',n',b',zb,G2.mono λc xs e=>?_,gok,λz=>absurd z e,λ_=>be,(Keep.of s12).trans (Keep.upd _ _ _)⟩⟩
    rw[zh (zB e hp2 (λz=>nomatch z))];exact e
  ·rintro σ' H1 ⟨rfl,ga',n',b',hp1,G1,gok,eg,be,k1⟩
   have htd1:=k1 _ _ (Ne.symm npt) A0.ht
   have m1:∀c xs,H c=some (.tup xs)->H1 c=some (.tup xs):=λc xs e=>k1 _ _ (zB e hp (λz=>nomatch z)) e
   have hv1:=zH hv T m1
   refine⟨_,rfl,p,dx,_,rfl,hp1,rfl,p,dx,hd,td,ga', .ref pt,nm,n',b',kt,tm,g,hs,ps,lks,hds,rfl,hp1,htd1,A0.tt.mono m1,A0.ot,hv1,T,hf,hnm,G1,gok,λl us2 kt2 H2 hl hl2 R2 htd2 tb2 tok2 k2=>?_⟩
   have hl0:H l=none:=by
    cases z:H l with
    |none=>rfl
    |some u=>
     by_cases y:l=p
     ·rw[y,hp1] at hl;cases hl
     ·rw[k1 l u y z] at hl;cases hl
   have dl:∀{hr:List D} {b:Option WM} {tm:Tb},(zbr hr b tm (due hs ps nm)).length<=10:=λ{hr b tm}=>Nat.le_trans zdf (Nat.le_trans (List.length_filter_le _ _) T.ten)
   have m2:∀c xs,H1 c=some (.tup xs)->H2 c=some (.tup xs):=λc xs e=>k2 _ _ (zB e htd1 (λz=>nomatch z)) e
   have m12:∀c xs,H c=some (.tup xs)->H2 c=some (.tup xs):=λc xs e=>m2 _ _ (m1 _ _ e)
   exact q l ga' us2 n' b' kt2 _ _ H2 hl0 hl2 R2 ⟨k2 _ _ npt hp1,k2 _ _ A0.ne (k1 _ _ (Ne.symm nph) A0.hh),A0.th.mono m12,A0.oh,htd2,tb2,tok2,G1.mono m2,gok,A0.ne⟩ ⟨eg,be,λo ho=>by rw[zdJ,if_pos ho],zew lst⟩ (λc o n1 n3 e=>k2 c o n3 (k1 c o n1 e)) dl rfl rfl
noncomputable def ziR(C:Addr):Sp:=λvs H Q _=>∃(p dx hd td ga:Addr) (v lv:V) (nm one:Str) (r:Hr) (n:Int) (b:Option WM) (kh kt:List (Key×V)) (hm tm:Tb) (L0:List Lt) (g:Str) (hs:List Str) (ps:List (Str×Str)) (lks hds:List D),vs=[.ref p,lv]/\LtO H lv one nm r/\one∈hs/\hrR one r/\HsAt C hs H p dx hd td ga v nm n b kh hm kt tm/\HInv g nm (zv hs lks nm) (zv hs hds nm) (due hs ps nm) b hm tm L0/\Rep H v (zaf g hs ps lks hds)/\TownOk g hs ps lks hds/\(∀d∈hds,∃ds,d= .tup ds/\ds.length<=12)/\nm∈hs/\
 ∀(l ga':Addr) (us:List V) (n':Int) (b':Option WM) (kh' kt':List (Key×V)) (tm':Tb) (L:List Lt) (H':Hp),H l=none->H' l=some (.lst us)->LtsO H' nm us L->HsAt C hs H' p dx hd td ga' v nm n' b' kh' (zd0 hm (one,r)) kt' tm'->HInv g nm (zv hs lks nm) (zv hs hds nm) (due hs ps nm) b' (zd0 hm (one,r)) tm' (L0 ++L)->(∀c o,c≠p->c≠hd->c≠td->H c=some o->H' c=some o)->L.length<=10->((r.1<=zcF (zu hm one)/\L=[]/\tm'=tm/\b'=b)\/(¬r.1<=zcF (zu hm one)/\L=zbr (zv hs hds nm) b' tm (due hs ps nm)/\tm'=zbj (zv hs hds nm) b' tm (due hs ps nm)))->Q (.ref l) H'
theorem zlo(Y:Ev K mg):FnOk P w K mg base CX0 9 Y.a_House_hear Y.d_House_hear zbs (ziR Y.c_House):=by
 have G_House_heard:FnOk P w K mg base CX0 1 Y.a_House_heard Y.d_House_heard zaH (zes Y.c_House Y.a_NOTHING):=zfQ Y
 have G_House_choose:FnOk P w K mg base CX0 8 Y.a_House_choose Y.d_House_choose zaQ (zfO Y.c_House):=ziv Y
 refine Y.House_hear.fn.okQ c_House_hear (λvs H Q E h=>?_) (λcdv A outer s H vs Q E hr h=>?_)
 ·obtain ⟨p,dx,hd,td,ga,v,lv,nm,one,r,n,b,kh,kt,hm,tm,L0,g,hs,ps,lks,hds,rfl,_⟩:=h;rfl
 ·obtain ⟨p,dx,hd,td,ga,v,lv,nm,one,r,n,b,kh,kt,hm,tm,L0,g,hs,ps,lks,hds,rfl,⟨t,x,y,rfl,ht,wa⟩,hone,hrr,A0,I0,hv,T,hf,hnm,q⟩:=h
  have hp:=A0.hp
  have npt:p≠td:=zB hp A0.ht (λz=>nomatch z)
  have nph:p≠hd:=zB hp A0.hh (λz=>nomatch z)
  have hml:=A0.oh.len
  have kl:=A0.th.len
  have T10:=T.ten
  refine⟨_,(zg (zcw (qv 1) (zcV 5 rfl (zy (zr 2 c_House_hear.nd) (zy (zr 3 c_House_hear.nd) (zy (zr 4 c_House_hear.nd) (zy (zr 5 c_House_hear.nd) (zy (zr 6 c_House_hear.nd) zbb)))))))
   (zg (zab (zA zoP (qv 4) (zP ix_tup (zeI (qv 0) Y.k_House Y.House_heard.m G_House_heard (hr.mono (by decide)) Y.House_heard.b .nil zm (za (qv 2) zc)) zf)) (zj (zz (zcq zc))) zM)
   (zg (zcm (hu1 hr) (zaR (qv 0)) (qv 2) (zx (za (qv 4) (za (qv 5) (za (qv 6) zc)))))
   (zj (zz (zcX (qv 0) Y.k_House Y.House_choose.m G_House_choose (hr.mono (by decide)) Y.House_choose.b .nil zm)))))),?_⟩
  refine⟨_,rfl,t,_,rfl, .inl (.inl ht),rfl,_,_,rfl,_,_,rfl,_,_,rfl,_,_,rfl,_,_,rfl,rfl,?_⟩
  refine⟨_,rfl,_,rfl,p,dx,_,rfl,hp,rfl,_,rfl,p,dx,hd,td,ga,v,nm,one,n,kh,rfl,hp,A0.hh,?_⟩
  obtain⟨A3,x3,y3,eA,hA⟩:∃A x y,(zal kh (Sum.inr one)).getD (.ref Y.a_NOTHING)= .ref A/\SqT K H A [.int (zcF (zu hm one)),x,y]:=by
   rcases A0.th.look one with⟨e1,e2⟩|⟨r,v',e1,e2,t,x,y,rfl,ht,wa⟩
   ·rw[e1,e2];exact⟨Y.a_NOTHING,_,_,rfl,Y.t_NOTHING _⟩
   ·rw[e1,e2];exact⟨t,x,y,rfl, .inl (.inl ht)⟩
  rw[eA]
  refine⟨A3,_,0,_,rfl,rfl,hA,at0,_,_,rfl,rfl,_,rfl,?_⟩
  have eh:zd0 hm (one,r)=if r.1<=zcF (zu hm one)then hm else zcC hm one r:=rfl
  by_cases c:r.1<=zcF (zu hm one)
  ·rw[if_pos c] at eh
   rw[eh] at q
   refine zaM (decide_eq_true c) ⟨few rfl,λl hl=>?_⟩
   have S:=Same.new (o:= .lst ([]:List V)) hl
   have mS:∀c xs,H c=some (.tup xs)->(upd H l (.lst ([]:List V))) c=some (.tup xs):=λc xs e=>S _ _ e
   exact q l ga [] n b kh kt tm [] _ hl zb .nil ⟨S _ _ A0.hp,S _ _ A0.hh,A0.th.mono mS,A0.oh,S _ _ A0.ht,A0.tt.mono mS,A0.ot,A0.gr.mono mS,A0.go,A0.ne⟩ (by rw[List.append_nil];exact I0) (λc o _ _ _ e=>S _ _ e) (Nat.zero_le _) (.inl ⟨c,rfl,rfl,rfl⟩)
  ·rw[if_neg c] at eh
   rw[eh] at q
   refine zac (by rw[decide_eq_false c]) ?_
   refine⟨_,rfl,_,rfl,_,rfl,few rfl,λpr hpr=>?_⟩
   have S1:=Same.new (o:= .tup [V.int r.1,x,y]) hpr
   have e1:(upd H pr (.tup [V.int r.1,x,y])) pr=some (.tup [V.int r.1,x,y]):=zb
   generalize (upd H pr (HO.tup [V.int r.1,x,y]))=H1 at *
   have hh1:=S1 _ _ A0.hh
   refine⟨_,rfl,p,_,dx,_,_,rfl,S1 _ _ hp,Y.k_House,Y.n_House_hearings,zhc,_,rfl,hd,_,rfl, .inl ⟨kh,Sum.inr one,hh1,rfl,zp (by omega),rfl⟩,?_⟩
   have m12:∀c xs,H1 c=some (.tup xs)->upd H1 hd (.dK (zO kh (Sum.inr one) (.ref pr))) c=some (.tup xs):=λc xs e=>by rw[zh (zB e hh1 (λz=>nomatch z))];exact e
   have k12:Keep hd H1 (upd H1 hd (.dK (zO kh (Sum.inr one) (.ref pr)))):=Keep.upd _ _ _
   have hh2:upd H1 hd (.dK (zO kh (Sum.inr one) (.ref pr))) hd=some (.dK (zO kh (Sum.inr one) (.ref pr))):=zb
   generalize (upd H1 hd (.dK (zO kh (Sum.inr one) (.ref pr))))=H2 at *
   have m2:∀c xs,H c=some (.tup xs)->H2 c=some (.tup xs):=λc xs e=>m12 _ _ (S1 _ _ e)
   have k2:∀c o,c≠hd->H c=some o->H2 c=some o:=λc o n e=>k12 c o n (S1 _ _ e)
   have hp2:=k2 _ _ nph hp
   have A2:HsAt Y.c_House hs H2 p dx hd td ga v nm n b (zO kh (Sum.inr one) (.ref pr)) (zcC hm one r) kt tm:=⟨hp2,hh2,(A0.th.mono m2).put ⟨pr,x,y,rfl,m12 _ _ e1,wa.mono m2⟩,A0.oh.put hone hrr,k2 _ _ (Ne.symm A0.ne) A0.ht,A0.tt.mono m2,A0.ot,A0.gr.mono m2,A0.go,A0.ne⟩
   refine⟨_,rfl,p,dx,_,rfl,hp2,rfl,p,dx,hd,td,ga,v,nm,n,b,_,kt,_,tm,L0,g,hs,ps,lks,hds,rfl,A2,I0.goal,I0.last,zH hv T m2,T,hf,hnm,λl ga' us n' b' kt' tm' L H' hl hl' R' A' I' k' ll eL eT=>?_⟩
   have hl0:H l=none:=by
    cases z:H l with
    |none=>rfl
    |some u=>
     by_cases y:l=hd
     ·rw[y,hh2] at hl;cases hl
     ·rw[k2 l u y z] at hl;cases hl
   refine q l ga' us n' b' _ kt' tm' L H' hl0 hl' R' A' I' (λc o n1 n2 n3 e=>k' c o n1 n3 (k2 c o n2 e)) ll (.inr ⟨c,eL,eT⟩)
end
section
variable{P:Program}{w:World}{K:PySem.W.Frag}{mg:Str->Option Value}{base:Heap}
def zqO(H:Hp)(x:Str)(v:V):Option (List Str)->Prop
 |none=>v= .non
 |some w=>∃pw,v= .ref pw/\H pw=some (.tup (w.map V.str))/\(∃ws,w=x::ws)/\w.length<=10/\∀y∈w,zi y=true
noncomputable def ziS:Sp:=λvs H Q _=>∃(a:Addr) (n:Int) (v:V) (x:Str) (g:Str) (hs:List Str) (ps:List (Str×Str)) (lks hds:List D),vs=[.ref a,v, .str x]/\Hand H a n/\n<2^37/\Rep H v (zaf g hs ps lks hds)/\TownOk g hs ps lks hds/\x∈hs/\∀(v':V) (ow:Option (List Str)) (H':Hp),zqO H' x v' ow->Hand H' a (n+10)->Keep a H H'->Q v' H'
theorem zkG(Y:Ev K mg):FnOk P w K mg base CX0 3 Y.a__law_real_way Y.d__law_real_way zaz ziS:=by
 have G_tied:FnOk P w K mg base CX0 1 Y.a_tied Y.d_tied zco zds:=zcZ Y
 have G__law_pick:FnOk P w K mg base CX0 2 Y.a__law_pick Y.d__law_pick zJ (zbE K):=zbM Y
 refine Y._law_real_way.fn.okQ c__law_real_way (λvs H Q E h=>?_) (λcdv A outer s H vs Q E hr h=>?_)
 ·obtain ⟨a,n,v,x,g,hs,ps,lks,hds,rfl,_⟩:=h;rfl
 ·obtain ⟨a,n,v,x,g,hs,ps,lks,hds,rfl,hH,hn,hv,T,hx,q⟩:=h
  obtain⟨pt,us,rfl,hpt,h0⟩:=zcH hv
  have T10:=T.ten
  have npa:∀{b o},H b=some (.tup o)->b≠a:=λ{b o} e z=>by obtain⟨_,_,_,e',_⟩:=hH;rw[z,e'] at e;cases e
  refine⟨_,(zg (zeq 3 c__law_real_way.nd (zx (za (qv 2) zc)))
   (zg (zns (zA zib (zP ix_tup (qc 3) (zhb zc2 zf)) (zP ix_tup (qv 1) zf)) (zg (zdw 4 (src:=[none,some 3]) o__law_real_way_1 rfl rfl c__law_real_way.nd (zeE (zk G_tied (hr.mono (by decide)) Y.tied.mg Y.tied.kp Y.tied.b .nil zm (za (qv 1) (za (zP ix_tup (qc 3) (zhb zc2 zf)) zc)))) (λ_ _ _ _ _=>(zr 0 o__law_real_way_1.nd)) (λ_ _ _ _ _=>(ziO (zA (zf7 (K:=K) rfl) (qv 0) (qc 1)))) (λ_ _ _ _ _=>(qv 0)))
   (zg (zab (zA (zpn (zeY hr)) (qv 4) (zcq zc)) (zj (zz z9)) zM)
   (zj (zeq 3 c__law_real_way.nd (zE zb9 (qc 3) (zx (za (zk G__law_pick (hr.mono (by decide)) Y._law_pick.mg Y._law_pick.kp Y._law_pick.b .nil zm (za (qv 0) (za (qv 4) zc))) zc))))))))
   (zj (zz (qc 3))))),?_⟩
  refine⟨_,rfl,few rfl,λpw hpw=>?_⟩
  have S1:=Same.new (o:= .tup [V.str x]) hpw
  refine⟨λm σ' H'=>∃pw w o4,σ'=[some (.ref a),some (.ref pt),some (.str x),some (.ref pw),o4]/\H' pw=some (.tup (w.map V.str))/\w.Nodup/\(∀y∈w,y∈hs)/\(∃ws,w=x::ws)/\m+w.length=10/\Hand H' a (n+w.length -1)/\Keep a H H',⟨9,pw,[x],_,rfl,zb,by simp,λy hy=>by rw[List.mem_singleton.mp hy];exact hx,⟨[],rfl⟩,rfl,(hH.same S1).mono (by show n<=n+((1:Nat):Int) -1;omega),Keep.of S1⟩,?_⟩
  rintro m σ' H1 ⟨pw,w,o4,rfl,hw,wnd,wh,⟨ws,ew⟩,ml,hH1,k1⟩
  have hpt1:=k1 _ _ (npa hpt) hpt
  obtain⟨w0,z,ez⟩:∃w0 z,w=w0 ++ [z]:=⟨w.dropLast,w.getLast (by rw[ew];simp),(List.dropLast_concat_getLast _).symm⟩
  have hat:atI (w.map V.str) (-1)=some (.str z):=by rw[ez,List.map_append];exact zlV _ _
  have wn:∀y∈w,zi y=true:=λy hy=>T.names y (wh y hy)
  have hz:z∈hs:=wh z (by rw[ez];simp)
  refine⟨_,rfl,1,rfl,pw,_,-1,_,rfl,rfl, .inl (.inl hw),hat,_,rfl,pt,us,0,_,rfl,rfl, .inl (.inl hpt1),zI (j:=0) h0,rfl,_,rfl,?_⟩
  rw[zbD]
  by_cases e:z=g
  ·rw[decide_eq_true e]
   refine⟨_,rfl,q _ (some w) H1 ⟨pw,rfl,hw,⟨ws,ew⟩,by omega,wn⟩ (hH1.mono (by omega)) k1⟩
  rw[decide_eq_false e]
  have hv1:Rep H1 (.ref pt) (zaf g hs ps lks hds):=hv.mono (.keep k1 hH hH1)
  refine⟨λσ' H'=>∃pw w' o4,σ'=[some (.ref a),some (.ref pt),some (.str x),some (.ref pw),o4]/\H' pw=some (.tup (w'.map V.str))/\w'.Nodup/\(∀y∈w',y∈hs)/\(∃ws,w'=x::ws)/\w'.length=w.length+1/\Hand H' a (n+w'.length -1)/\Keep a H H',?_,?_⟩
  ·rintro σ2 H2 ⟨pw',w',o4',rfl,hw',nd',wh',e',l',hH',k'⟩
   have l10:w'.length<=10:=Nat.le_trans (zcK nd' wh') T10
   exact⟨m -1,by omega,pw',w',_,rfl,hw',nd',wh',e',by omega,hH',k'⟩
  refine⟨_,rfl,_,rfl,1,rfl,pw,_,-1,_,rfl,rfl, .inl (.inl hw),hat, .ref pt,z,g,hs,ps,lks,hds,rfl,hv1,T,λl ts H2 hl hl2 tp tsr s2=>?_⟩
  have tl:ts.length<=10:=by rw[tp.length_eq];exact zcM T z
  have tin:∀o∈ts,o∈hs:=λo ho=>zc3 T (tp.mem_iff.mp ho)
  have hw2:=s2 _ _ hw
  refine⟨l,rfl,⟨_,SqL.of hl2⟩,?_⟩
  refine zkg (ds:=ts.map D.str) (g:=zlM w) (f:=λd=>d) (σr:=[some (.ref pw)]) (zdt (K:=K) (xs:=ts.map V.str)) (λH' s'=>SqL.of (s' _ _ hl2)) (ziV λx hx=>zau (T.names x (tin x hx))) (by rw[List.length_map];omega) rfl ?_ (λx d HA sA rx hd=>by walk_at "dsp") λl7 us7 H7 s7 hl7 e7 r7=>?_
  ·intro x d HA Q1 sA rx hd q1
   obtain⟨b,_,rfl⟩:=List.mem_map.mp hd
   cases rx with|str _ _=>
   refine⟨_,rfl,_,rfl,pw,_,rfl, .inr (.inl (.inl (sA _ _ hw2))),rfl,zcP,_,rfl,?_⟩
   rw[if_pos rfl,zeh]
   exact q1 HA (Same.refl _)
  rw[List.map_id',ziJ] at r7
  have eus:=zgu r7
  subst eus
  have hx7:∀y∈ts.filter (λx=>!(w.any λy=>decide (y=x))),y∈hs/\y∉w:=λy hy=>by
   obtain⟨h1,h2⟩:=List.mem_filter.mp hy
   refine⟨tin y h1,λz=>?_⟩
   rw[List.any_eq_true.mpr ⟨y,z,decide_eq_true rfl⟩] at h2
   cases h2
  have hlen7:(ts.filter (λx=>!(w.any λy=>decide (y=x)))).length<=10:=Nat.le_trans (List.length_filter_le _ _) tl
  generalize (ts.filter (λx=>!(w.any λy=>decide (y=x))))=ys at *
  have s17:=s2.trans s7
  have hH7:=hH1.same s17
  have nl7:l7≠a:=(hH1.same s2).ne hl7
  refine⟨_,rfl,few rfl,λpe hpe=>?_⟩
  have se:=Same.new (o:= .lst []) hpe
  refine⟨_,_,zkf (se _ _ e7) (λx hx=>zak (T.names x (hx7 x hx).1)),zmC zb,Nat.le_trans (Nat.min_le_right _ _) (by decide),_,rfl,?_⟩
  have s18:=s17.trans se
  have hH8:=hH7.same se
  have e8:=se _ _ e7
  generalize (upd H7 pe (HO.lst []))=H8 at *
  cases ys with
  |nil=>
   refine zaM (by unfold zt;rfl) ?_
   exact q .non none H8 rfl (hH8.mono (by omega)) (k1.trans (Keep.of s18))
  |cons y0 yr=>
   refine zac (by unfold zt;rw[List.map_cons,PyData.eqv];rfl) ?_
   refine⟨_,rfl,_,rfl,_,rfl,a,_,hH8,by omega, .inl ⟨l7,_,rfl,nl7,SqL.of e8,by rw[List.length_map];simp,by rw[List.length_map];omega,λv9 H9 hv9 hH9 k9=>⟨few rfl,λp9 hp9=>?_⟩⟩⟩
   obtain⟨y,hy,rfl⟩:=List.mem_map.mp hv9
   obtain⟨y1,y2⟩:=hx7 y hy
   have m89:Mono H8 H9:= .keep k9 hH8 hH9
   have S9:=Same.new (o:= .tup [V.str y]) hp9
   refine zav (xs:=w.map V.str) (ys:=[V.str y]) (S9 _ _ (m89.tup _ _ (s18 _ _ hw))) zb (by rw[List.length_map];show _+1<=_;omega) λpX HX hpX sX=>?_
   have hpX:HX pX=some (.tup ((w ++ [y]).map V.str)):=by rw[List.map_append];exact hpX
   refine⟨pX,w ++ [y],_,rfl,hpX,List.nodup_append.mpr ⟨wnd,by simp,λc hc d hd z=>?_⟩,λc hc=>?_,⟨ws ++ [y],by rw[ew];rfl⟩,by rw[List.length_append];rfl,((hH9.same S9).same sX).mono (by rw[List.length_append];push_cast;show _<=n+(_+1) -1;omega),((k1.trans (Keep.of s18)).trans k9).trans (Keep.of (S9.trans sX))⟩
   ·rw[List.mem_singleton.mp hd] at z;rw[z] at hc;exact y2 hc
   ·rcases List.mem_append.mp hc with hc|hc
    ·exact wh c hc
    ·rw[List.mem_singleton.mp hc];exact y1
end
section
variable{P:Program}{w:World}{K:PySem.W.Frag}{mg:Str->Option Value}{base:Heap}
noncomputable def zgH:Sp:=λvs H Q _=>∃(a:Addr) (n:Int) (v:V) (g:Str) (hs:List Str) (ps:List (Str×Str)) (lks hds:List D),vs=[.ref a,v]/\Hand H a n/\n<2^37/\Rep H v (zaf g hs ps lks hds)/\TownOk g hs ps lks hds/\(∀d∈hds,∃ds,d= .tup ds/\ds.length<=12)/\∀(pm:Addr) (ms:List Str) (H':Hp),H' pm=some (.tup (ms.map V.str))->(∀y∈ms,zi y=true)->ms.length<=7->Hand H' a (n+8)->Keep a H H'->Q (.ref pm) H'
theorem zjd(Y:Ev K mg):FnOk P w K mg base CX0 3 Y.a__law_some_marks Y.d__law_some_marks zag zgH:=by
 have G__law_take:FnOk P w K mg base CX0 1 Y.a__law_take Y.d__law_take zN zcA:=zb8 Y
 have G__law_pick:FnOk P w K mg base CX0 2 Y.a__law_pick Y.d__law_pick zJ (zbE K):=zbM Y
 refine Y._law_some_marks.fn.okQ c__law_some_marks (λvs H Q E h=>?_) (λcdv A outer s H vs Q E hr h=>?_)
 ·obtain ⟨a,n,v,g,hs,ps,lks,hds,rfl,_⟩:=h;rfl
 ·obtain ⟨a,n,v,g,hs,ps,lks,hds,rfl,hH,hn,hv,T,hf,q⟩:=h
  obtain⟨p,pr,pt,pl,pa,vt,vl,va,rfl,hp,hpr,hpt,rt,hpl,rl,hpa,ra⟩:=ze9 hv
  have T10:=T.ten
  have lva:=ra.1
  have lh:=T.lh
  have npa:∀{b o},H b=some (.tup o)->b≠a:=λ{b o} e z=>by obtain⟨_,_,_,e',_⟩:=hH;rw[z,e'] at e;cases e
  refine⟨_,(zg (zw 2 c__law_some_marks.nd (zcq (za zD (za zD (za zD zc)))))
   (zg (zb1 PassesOwn.never rfl (zdj (zP ix_tup (qv 1) zf)) (zr 3 c__law_some_marks.nd) (zj (zcg (zga PySem.F.plainAttrs_list PySem.F.slot_list_extend PySem.F.type_list_extend zkK (qv 2) (za (zdR (src:=[none]) o__law_some_marks_1 rfl rfl (zdj (qv 3)) (λ_ _ _ _ _=>(zr 0 o__law_some_marks_1.nd)) (λ_ _ _ _ _=>(ziO (zA zib (zP (ze0 (K:=K) rfl) (zP (ze0 (K:=K) rfl) (qv 0) zf) zf) zD))) (λ_ _ _ _ _=>(zP (ze0 (K:=K) rfl) (zP (ze0 (K:=K) rfl) (qv 0) zf) zf))) zc)))))
   (zg (zw 4 c__law_some_marks.nd zeD)
   (zg (zb1 PassesOwn.never rfl (zdc Y.range (za (zP ix_list (zeG [V.int 0,V.int 0,V.int 1,V.int 2,V.int 7] (by decide +kernel)) (zk G__law_take (hr.mono (by decide)) Y._law_take.mg Y._law_take.kp Y._law_take.b .nil zm (za (qv 0) (za zf zc)))) zc)) (zr 5 c__law_some_marks.nd) (zj (zcm (hu1 hr) (qv 4) (zk G__law_pick (hr.mono (by decide)) Y._law_pick.mg Y._law_pick.kp Y._law_pick.b .nil zm (za (qv 0) (za (qv 2) zc))) zeZ)))
   (zj (zz (zah zV Y.tuple zbz (za (zF (zhA rfl) Y.sorted zcL (za (qv 4) zc)) zc)))))))),?_⟩
  refine⟨few rfl,λls hls=>?_⟩
  have S1:=Same.new (o:= .lst [V.str "aa",V.str "q",V.str "zz"]) hls
  have nls:ls≠a:=hH.ne hls
  refine⟨_,rfl,p,_,4,_,rfl,rfl, .inl (.inl (S1 _ _ hp)),zI (j:=4) rfl,pa,rfl,⟨_, .inl (.inl (S1 _ _ hpa))⟩,?_⟩
  have n3:∀y∈(["aa","q","zz"]:List Str),zi y=true:=λy hy=>by
   simp only[List.mem_cons,List.not_mem_nil,or_false] at hy
   rcases hy with rfl|rfl|rfl<;>decide +kernel
  refine zaP (zcj (K:=K) (xs:=va)) (λi σ' H'=>(∃o3 o4 o5,σ'=[some (.ref a),some (.ref p),some (.ref ls),o3,o4,o5])/\(∃xs:List Str,H' ls=some (.lst (xs.map V.str))/\(∀y∈xs,zi y=true)/\1<=xs.length/\xs.length<=3+12*i)/\Same H H') ?_ ?_ ?_ ?_
  ·exact ⟨⟨_,_,_,rfl⟩,⟨(["aa","q","zz"]:List Str),zb,n3,by decide,by decide⟩,S1⟩
  ·exact λi σ' H' z=> .inl (.inl (z.2.2 _ _ hpa))
  ·rintro i y σ' H1 hi hy ⟨⟨o3,o4,o5,rfl⟩,⟨xs,hx1,xn,x1,xl⟩,s1⟩
   obtain⟨d,hd,rd⟩:=ra.get hy
   have hdm:=List.mem_of_getElem? hd
   obtain⟨rs,rfl,hk⟩:=zff (T.hands d hdm)
   obtain⟨ds,e3,h12⟩:=hf _ hdm
   cases e3
   obtain⟨pq,us,rfl,hpq,rr,_⟩:=rd.ofT
   have lu:=rr.1
   have hpq1:=s1 _ _ hpq
   refine⟨_,rfl, .inl ⟨rfl,_,SqL.of hx1⟩,_,rfl,pq,rfl,⟨_, .inl (.inl hpq1)⟩,?_⟩
   refine zcz (zcj (K:=K) (xs:=us)) (λl' i ys σ' H'=>(∃o0,σ'=[o0])/\(∃zs:List Str,ys=zs.map V.str/\(∀y∈zs,zi y=true)/\zs.length<=i)/\Same H1 H') ?_ (λl' i ys σ' H' hl' z=> .inl (.inl (z.2.2 _ _ hpq1))) ?_ ?_
   ·exact λl' hl'=>⟨⟨_,rfl⟩,⟨[],rfl,(λ_ z=>nomatch z),Nat.le_refl _⟩,Same.new hl'⟩
   ·rintro l' k y0 ys σ' H2 hl' hk' hy' ⟨⟨o0,rfl⟩,⟨zs,rfl,zn,zl⟩,s2⟩ hl2
    obtain⟨r,er,rr0⟩:=rr.get hy'
    obtain⟨cs,x,rfl,_,hx⟩:=hk.2 r (List.mem_of_getElem? er)
    obtain⟨pb,xc,xx,rfl,hpb,rc,rx⟩:=rr0.of2
    have hpb2:=s2 _ _ (s1 _ _ hpb)
    rcases hx with rfl|⟨w,m,rfl,hw,hm⟩
    ·obtain ⟨px,ux,rfl,hpx,rux,_⟩:=rx.ofT
     obtain⟨u0,rfl,ru0⟩:∃u0,ux=[u0]/\Rep H u0 (.str "keep"):=by
      match ux,rux.1,rux with
      |[u0],_,r=>exact ⟨u0,rfl,r.2 0 _ _ rfl rfl⟩
     cases ru0 with|str _ _=>
     refine⟨_,rfl,pb,_,1,_,rfl,rfl, .inl (.inl hpb2),at1,px,_,0,_,rfl,rfl, .inl (.inl (s2 _ _ (s1 _ _ hpx))),at0,rfl,_,rfl,zac (by decide +kernel) ⟨hl2,⟨_,rfl⟩,⟨zs,rfl,zn,by omega⟩,s2⟩⟩
    ·obtain ⟨px,u0,u1,rfl,hpx,ru0,ru1⟩:=rx.of2
     cases ru0 with|str _ _=>
     cases ru1 with|str _ _=>
     have hpx2:=s2 _ _ (s1 _ _ hpx)
     refine⟨_,rfl,pb,_,1,_,rfl,rfl, .inl (.inl hpb2),at1,px,_,0,_,rfl,rfl, .inl (.inl hpx2),at0,rfl,_,rfl,zaM (by rcases hw with rfl|rfl<;>decide +kernel) ⟨_,rfl,pb,_,1,_,rfl,rfl, .inl (.inl hpb2),at1,px,_,1,_,rfl,rfl, .inl (.inl hpx2),at1,hl2,zp (by rw[List.length_map];omega),⟨_,rfl⟩,⟨zs ++ [m],by rw[List.map_append];rfl,λy hy=>?_,by rw[List.length_append];show _+1<=_;omega⟩,?_⟩⟩
     ·rcases List.mem_append.mp hy with hy|hy
      ·exact zn y hy
      ·rw[List.mem_singleton.mp hy];exact hm
     ·exact λc o e=>by rw[zh (ze e hl')];exact s2 _ _ e
   ·rintro l' ys σ' H2 hl' ⟨⟨o0,rfl⟩,⟨zs,rfl,zn,zl⟩,s2⟩ hl2
    refine⟨ls,l',_,_,rfl,rfl,s2 _ _ hx1,hl2,Nat.le_of_lt (zp (by rw[List.length_map,List.length_map];omega)),⟨_,_,_,rfl⟩,⟨xs ++zs,by rw[List.map_append];exact zb,λy hy=>(List.mem_append.mp hy).elim (xn y) (zn y),by rw[List.length_append];omega,by rw[List.length_append];omega⟩,λc o e=>?_⟩
    rw[zh (ze e hls)];exact s2 _ _ (s1 _ _ e)
  ·rintro σ' H1 ⟨⟨o3,o4,o5,rfl⟩,⟨xs,hx1,xn,x1,xl⟩,s1⟩
   refine λfd hfd=>?_
   have S2:=Same.new (o:= .dK []) hfd
   have hH2:=(hH.same s1).same S2
   have nfd:fd≠a:=(hH.same s1).ne hfd
   have nfl:ls≠fd:=ze hx1 hfd
   have e2:(upd H1 fd (.dK [])) fd=some (.dK []):=zb
   have hx2:=S2 _ _ hx1
   have s02:=s1.trans S2
   show zlj _ _ _ _ (upd H1 fd (.dK []))
   generalize (upd H1 fd (HO.dK []))=H2 at *
   refine⟨by decide,λpk hpk=>⟨_,rfl,a,5,_,rfl,hH2.new hpk,by omega,by decide,by decide,λu4 H3 u40 u44 hH3 k3=>?_⟩⟩
   have hpk3:=k3 _ _ (hH2.ne hpk) zb
   obtain⟨v4,ev4,hv4⟩:=zdA (xs:=[V.int 0,V.int 0,V.int 1,V.int 2,V.int 7]) u40 u44
   obtain⟨m,rfl,m7⟩:∃m:Nat,v4= .int (m:Int)/\m<=7:=by
    simp only[List.mem_cons,List.not_mem_nil,or_false] at hv4
    rcases hv4 with rfl|rfl|rfl|rfl|rfl
    ·exact ⟨0,rfl,by decide⟩
    ·exact ⟨0,rfl,by decide⟩
    ·exact ⟨1,rfl,by decide⟩
    ·exact ⟨2,rfl,by decide⟩
    ·exact ⟨7,rfl,by decide⟩
   have k23:Keep a H2 H3:=(Keep.new hpk).trans k3
   refine⟨pk,_,_,_,rfl,rfl,SqL.of hpk3,ev4,?_⟩
   refine⟨_,rfl,by omega,by omega,?_⟩
   have em:((m:Int)).toNat=m:=by omega
   rw[em]
   have hfd0:H fd=none:=zaU s1 hfd
   refine zaP zcD (λi σ' H'=>(∃o3 o5,σ'=[some (.ref a),some (.ref p),some (.ref ls),o3,some (.ref fd),o5])/\(∃(kvs:List (Key×V)) (ss:List Str),H' fd=some (.dK kvs)/\kvs.map (·.1)=ss.map Sum.inr/\(∀y∈ss,zi y=true)/\ss.length<=i)/\H' ls=some (.lst (xs.map V.str))/\Hand H' a (n+1+i)/\Keep a H H') ⟨⟨_,_,rfl⟩,⟨[],[],k23 _ _ nfd e2,rfl,(λ_ z=>nomatch z),Nat.le_refl _⟩,k23 _ _ nls hx2,hH3.mono (by omega),(Keep.of s02).trans k23⟩ (λ_ _ _ _=>trivial) ?_ ?_
   ·rintro i y σ' H4 hi rfl ⟨⟨o3,o5,rfl⟩,⟨kvs,ss,hk4,ek,sn,sl⟩,hx4,hH4,k4⟩
    have lk:kvs.length=ss.length:=by have:=congrArg List.length ek;rwa[List.length_map,List.length_map] at this
    refine⟨_,rfl,_,rfl,_,rfl,a,_,hH4,by omega, .inl ⟨ls,_,rfl,nls,SqL.of hx4,by rw[List.length_map];omega,by rw[List.length_map];omega,λv5 H5 hv5 hH5 k5=>?_⟩⟩
    obtain⟨y,hy,rfl⟩:=List.mem_map.mp hv5
    have hk5:=k5 _ _ nfd hk4
    have hx5:=k5 _ _ nls hx4
    refine⟨fd,_,rfl, .inl ⟨kvs,Sum.inr y,hk5,rfl,zp (by omega),rfl⟩,⟨_,_,rfl⟩,?_,by rw[zh nfl];exact hx5,(hH5.updNe nfd).mono (by push_cast;omega),λc o nc e=>by rw[zh (ze e hfd0)];exact k5 c o nc (k4 c o nc e)⟩
    by_cases c:(Sum.inr y:Key)∈kvs.map (·.1)
    ·exact ⟨_,ss,zb,by rw[RW.putK_keys.1 c];exact ek,sn,by omega⟩
    ·exact ⟨_,ss ++ [y],zb,by rw[RW.putK_keys.2 c,ek,List.map_append];rfl,λz hz=>(List.mem_append.mp hz).elim (sn z) λe=>by rw[List.mem_singleton.mp e];exact xn y hy,by rw[List.length_append];show _+1<=_;omega⟩
   ·rintro σ' H4 ⟨⟨o3,o5,rfl⟩,⟨kvs,ss,hk4,ek,sn,sl⟩,hx4,hH4,k4⟩
    refine⟨_,rfl,fd,kvs,ss,rfl,hk4,ek,by omega,λss' l hperm hrise hl=>⟨l,_,rfl, .inl ⟨SqL.of zb,λpm hpm=>?_⟩⟩⟩
    have S5:=Same.new (o:= .lst (ss'.map V.str)) hl
    have S6:=Same.new (o:= .tup (ss'.map V.str)) hpm
    exact q pm ss' _ zb (λy hy=>sn y (hperm.mem_iff.mp hy)) (by rw[hperm.length_eq];omega) (((hH4.same S5).same S6).mono (by omega)) (k4.trans (Keep.of (S5.trans S6)))
noncomputable def zfu:Sp:=λvs H Q _=>∃(a d:Addr) (n:Int) (v:V) (nm:Str) (kvs:List (Key×V)) (g:Str) (hs:List Str) (ps:List (Str×Str)) (lks hds:List D),vs=[.ref a,v, .str nm, .ref d]/\Hand H a n/\n<2^36/\d≠a/\H d=some (.dK kvs)/\kvs.length<=900/\(∀x u,zal kvs (Sum.inr x)=some u->∃i,u= .int i)/\Rep H v (zaf g hs ps lks hds)/\TownOk g hs ps lks hds/\(∀d∈hds,∃ds,d= .tup ds/\ds.length<=12)/\nm∈hs/\due hs ps nm≠ []/\
 ∀(lv:V) (one:Str) (r:Hr) (kvs':List (Key×V)) (H':Hp),LtO H' lv one nm r->one∈hs->one∈due hs ps nm->hrR one r->0<r.1->H' d=some (.dK kvs')->kvs'.length<=kvs.length+1->(∀x u,zal kvs' (Sum.inr x)=some u->∃i,u= .int i)->Hand H' a (n+40)->(∀c o,c≠a->c≠d->H c=some o->H' c=some o)->Q lv H'
theorem ziC(Y:Ev K mg):FnOk P w K mg base CX0 4 Y.a__law_letter Y.d__law_letter za6 zfu:=by
 have G__law_take:FnOk P w K mg base CX0 1 Y.a__law_take Y.d__law_take zN zcA:=zb8 Y
 have G__law_pick:FnOk P w K mg base CX0 2 Y.a__law_pick Y.d__law_pick zJ (zbE K):=zbM Y
 have G_tied:FnOk P w K mg base CX0 1 Y.a_tied Y.d_tied zco zds:=zcZ Y
 have G__law_real_way:FnOk P w K mg base CX0 3 Y.a__law_real_way Y.d__law_real_way zaz ziS:=zkG Y
 have G__law_some_marks:FnOk P w K mg base CX0 3 Y.a__law_some_marks Y.d__law_some_marks zag zgH:=zjd Y
 refine Y._law_letter.fn.okQ c__law_letter (λvs H Q E h=>?_) (λcdv A outer s H vs Q E hr h=>?_)
 ·obtain ⟨a,d,n,v,nm,kvs,g,hs,ps,lks,hds,rfl,_⟩:=h;rfl
 ·obtain ⟨a,d,n,v,nm,kvs,g,hs,ps,lks,hds,rfl,hH,hn,nda,hd,kl,ki,hv,T,hf,hnm,hdue,q⟩:=h
  refine⟨_,(zg (zw 4 c__law_letter.nd (zk G__law_pick (hr.mono (by decide)) Y._law_pick.mg Y._law_pick.kp Y._law_pick.b .nil zm (za (qv 0) (za (zk G_tied (hr.mono (by decide)) Y.tied.mg Y.tied.kp Y.tied.b .nil zm (za (qv 1) (za (qv 2) zc))) zc))))
   (zg (zw 5 c__law_letter.nd (zc5 (hu1 hr) (qv 3) (qv 4) zf))
   (zg (zw 6 c__law_letter.nd (zF (zgR rfl) Y.max zg8 (za zf (za (zE zY (qv 5) (zP ix_list (zcq (za zf (za zf (za zf (za zf (za zf (za (zhb zc2 zf) (za zf (za (zE zeB zf zf) zc))))))))) (zk G__law_take (hr.mono (by decide)) Y._law_take.mg Y._law_take.kp Y._law_take.b .nil zm (za (qv 0) (za zf zc))))) zc))))
   (zg (zcm (hu1 hr) (qv 3) (qv 4) (zF (zgR rfl) Y.max zg8 (za (qv 5) (za (qv 6) zc))))
   (zg (zw 7 c__law_letter.nd (zk G__law_real_way (hr.mono (by decide)) Y._law_real_way.mg Y._law_real_way.kp Y._law_real_way.b .nil zm (za (qv 0) (za (qv 1) (za (qv 4) zc)))))
   (zg (zab (t_w (zk6 (zA zdH (qv 7) z9) (zgr (zA zaO (zk G__law_take (hr.mono (by decide)) Y._law_take.mg Y._law_take.kp Y._law_take.b .nil zm (za (qv 0) (za zf zc))) zf)))) (zj (zz (zx (za (qv 4) (za (qv 2) (za (qv 6) (za z9 (za (zx zc) zc)))))))) zM)
   (zj (zz (zx (za (qv 4) (za (qv 2) (za (qv 6) (za (qv 7) (za (zk G__law_some_marks (hr.mono (by decide)) Y._law_some_marks.mg Y._law_some_marks.kp Y._law_some_marks.b .nil zm (za (qv 0) (za (qv 1) zc))) zc)))))))))))))),?_⟩
  refine⟨_,rfl,_,rfl,_,rfl,v,nm,g,hs,ps,lks,hds,rfl,hv,T,λlt ts H1 hlt ht1 tp tsr s1=>?_⟩
  have ets:=zfF T tp tsr
  have tin:∀o∈ts,o∈hs:=λo ho=>zc3 T (tp.mem_iff.mp ho)
  have tl:ts.length<=10:=by rw[tp.length_eq];exact zcM T nm
  have t0:0<ts.length:=by rw[ets];exact List.length_pos_iff.mpr hdue
  have hH1:=hH.same s1
  have nlt:lt≠a:=hH.ne hlt
  refine⟨a,_,hH1,by omega, .inl ⟨lt,_,rfl,nlt,SqL.of ht1,by rw[List.length_map];omega,by rw[List.length_map];omega,λv2 H2 hv2 hH2 k2=>?_⟩⟩
  obtain⟨one,hone,rfl⟩:=List.mem_map.mp hv2
  have ohs:=tin one hone
  have odu:one∈due hs ps nm:=by rw[←ets];exact hone
  have hd2:=k2 _ _ nda (s1 _ _ hd)
  have k02:Keep a H H2:=(Keep.of s1).trans k2
  have hv2':=hv.mono (.keep k02 hH hH2)
  have last:∃i,(zal kvs (Sum.inr one)).getD (.int 0)= .int i:=by
   cases e:zal kvs (Sum.inr one)with
   |none=>exact ⟨0,rfl⟩
   |some u=>obtain ⟨i,rfl⟩:=ki one u e;exact⟨i,rfl⟩
  obtain⟨la,ela⟩:=last
  refine⟨_,rfl,d,rfl, .inl ⟨_, .inl hd2⟩,_,rfl,_,DGet.k (k:=Sum.inr one) hd2,?_⟩
  rw[ela]
  have cp:zpr 10 9:=⟨by decide,by decide,by decide⟩
  refine⟨_,rfl,1,rfl,_,_,rfl,rfl,cp,few rfl,λpl hpl=>⟨_,rfl,a,8,_,rfl,hH2.new hpl,by omega,by decide,by decide,λu H3 u0 u8 hH3 k3=>?_⟩⟩
  have hpl3:=k3 _ _ (hH2.ne hpl) zb
  obtain⟨v3,ev3,hv3⟩:=zdA (xs:=[V.int 1,V.int 1,V.int 1,V.int 2,V.int 0,V.int (-1),V.int 7,V.int (10^(9:Int).toNat)]) u0 u8
  obtain⟨c,rfl⟩:∃c:Int,v3= .int c:=by
   simp only[List.mem_cons,List.not_mem_nil,or_false] at hv3
   rcases hv3 with rfl|rfl|rfl|rfl|rfl|rfl|rfl|rfl<;>exact ⟨_,rfl⟩
  have k23:Keep a H2 H3:=(Keep.new hpl).trans k3
  have hd3:=k23 _ _ nda hd2
  refine⟨pl,_,_,_,rfl,rfl,SqL.of hpl3,ev3,_,_,rfl,rfl,_,_,rfl,?_⟩
  obtain⟨nr,enr,hnr⟩:∃nr:Int,(if la+c>1 then la+c else 1)=nr/\0<nr:=⟨_,rfl,by split<;>omega⟩
  rw[enr]
  refine⟨_,rfl,_,rfl,_,_,rfl,_,rfl,_,rfl,d,_,rfl, .inl ⟨kvs,Sum.inr one,hd3,rfl,zp (by omega),rfl⟩,?_⟩
  have m34:∀c xs,H3 c=some (.tup xs)->upd H3 d (.dK (zO kvs (Sum.inr one) (.int (if nr>la then nr else la)))) c=some (.tup xs):=λc xs e=>by rw[zh (zB e hd3 (λz=>nomatch z))];exact e
  have hH4:=hH3.updNe (o:= .dK (zO kvs (Sum.inr one) (.int (if nr>la then nr else la)))) nda
  have k34:∀c o,c≠d->H3 c=some o->upd H3 d (.dK (zO kvs (Sum.inr one) (.int (if nr>la then nr else la)))) c=some o:=λc o n e=>by rw[zh n];exact e
  have hd4:upd H3 d (.dK (zO kvs (Sum.inr one) (.int (if nr>la then nr else la)))) d=some (.dK (zO kvs (Sum.inr one) (.int (if nr>la then nr else la)))):=zb
  have ki':∀x u,zal (zO kvs (Sum.inr one) (.int (if nr>la then nr else la))) (Sum.inr x)=some u->∃i,u= .int i:=λx u e=>by
   rw[zlS] at e
   by_cases c:(Sum.inr x:Key)=Sum.inr one
   ·rw[if_pos c] at e;cases e;exact⟨_,rfl⟩
   ·rw[if_neg c] at e;exact ki x u e
  have kl':=zcv kvs (Sum.inr one) (.int (if nr>la then nr else la))
  show zlj _ _ _ _ (upd H3 d (.dK (zO kvs (Sum.inr one) (.int (if nr>la then nr else la)))))
  generalize (zO kvs (Sum.inr one) (V.int (if nr>la then nr else la)))=kvs' at *
  generalize (upd H3 d (HO.dK kvs'))=H4 at *
  have npa:∀{b o},H b=some (.tup o)->b≠a:=λ{b o} e z=>by obtain⟨_,_,_,e',_⟩:=hH;rw[z,e'] at e;cases e
  have m04:∀c xs,H c=some (.tup xs)->H4 c=some (.tup xs):=λc xs e=>m34 _ _ (k23 _ _ (npa e) (k02 _ _ (npa e) e))
  have k04:∀c o,c≠a->c≠d->H c=some o->H4 c=some o:=λc o n1 n2 e=>k34 c o n2 (k23 c o n1 (k02 c o n1 e))
  refine⟨_,rfl,_,rfl,_,rfl,a,_,v,one,g,hs,ps,lks,hds,rfl,hH4,by omega,zH hv T m04,T,ohs,λv5 ow H5 ow5 hH5 k5=>?_⟩
  have hd5:=k5 _ _ nda hd4
  have k05:∀c o,c≠a->c≠d->H c=some o->H5 c=some o:=λc o n1 n2 e=>k5 c o n1 (k04 c o n1 n2 e)
  cases ow with
  |none=>
   cases(show v5= .non from ow5)
   refine⟨_,rfl,rfl,_,rfl,zaM rfl (zaM rfl ⟨_,rfl,_,rfl,_,rfl,few rfl,λe6 he6=>⟨few rfl,λp6 hp6=>?_⟩⟩)⟩
   have S:=(Same.new (o:= .tup ([]:List V)) he6).trans (Same.new (o:= .tup [V.str one,V.str nm,V.int nr,V.non,V.ref e6]) hp6)
   exact q (.ref p6) one (nr,none) kvs' _ ⟨p6, .non, .ref e6,rfl,zb,rfl,e6,rfl,Same.new hp6 _ _ zb⟩ ohs odu trivial hnr (S _ _ hd5) kl' ki' ((hH5.same S).mono (by omega)) λc o n1 n2 e=>S _ _ (k05 c o n1 n2 e)
  |some w=>
   obtain⟨pw,rfl,hpw,⟨ws,ew⟩,wl,wn⟩:=ow5
   refine⟨_,rfl,rfl,_,rfl,zac rfl ⟨_,rfl,a,5,_,rfl,hH5,by omega,by decide,by decide,λt H6 t0 t5 hH6 k6=>⟨rfl,_,rfl,zcG (λe=>?_) (λe=>?_)⟩⟩⟩
   ·refine ⟨_,rfl,_,rfl,_,rfl,few rfl,λe6 he6=>⟨few rfl,λp6 hp6=>?_⟩⟩
    have S:=(Same.new (o:= .tup ([]:List V)) he6).trans (Same.new (o:= .tup [V.str one,V.str nm,V.int nr,V.non,V.ref e6]) hp6)
    exact q (.ref p6) one (nr,none) kvs' _ ⟨p6, .non, .ref e6,rfl,zb,rfl,e6,rfl,Same.new hp6 _ _ zb⟩ ohs odu trivial hnr (S _ _ (k6 _ _ nda hd5)) kl' ki' ((hH6.same S).mono (by omega)) λc o n1 n2 e=>S _ _ (k6 c o n1 (k05 c o n1 n2 e))
   ·have npw:∀{b o},H5 b=some (.tup o)->b≠a:=λ{b o} e z=>by obtain⟨_,_,_,e',_⟩:=hH5;rw[z,e'] at e;cases e
    have m06:∀c xs,H c=some (.tup xs)->H6 c=some (.tup xs):=λc xs e=>by
     have e4:=m04 _ _ e
     exact k6 _ _ (npa e) (k5 _ _ (npa e) e4)
    refine⟨_,rfl,_,rfl,_,rfl,_,rfl,_,rfl,_,rfl,a,_,v,g,hs,ps,lks,hds,rfl,hH6,by omega,zH hv T m06,T,hf,λpm ms H7 hpm mn ml hH7 k7=>⟨few rfl,λp8 hp8=>?_⟩⟩
    have S:=Same.new (o:= .tup [V.str one,V.str nm,V.int nr,V.ref pw,V.ref pm]) hp8
    have hpw7:=k7 _ _ (npw hpw) (k6 _ _ (npw hpw) hpw)
    exact q (.ref p8) one (nr,some (w,ms)) kvs' _ ⟨p8, .ref pw, .ref pm,rfl,zb,pw,pm,rfl,rfl,S _ _ hpw7,S _ _ hpm⟩ ohs odu ⟨⟨ws,ew⟩,wl,wn,mn,by omega⟩ hnr (S _ _ (k7 _ _ nda (k6 _ _ nda hd5))) kl' ki' ((hH7.same S).mono (by omega)) λc o n1 n2 e=>S _ _ (k7 c o n1 (k6 c o n1 (k05 c o n1 n2 e)))
end
section
variable{P:Program}{w:World}{K:PySem.W.Frag}{mg:Str->Option Value}{base:Heap}
noncomputable def zaN(nm:Str)(kd ld:Addr)(ov:V)(tn:Int):List (Key×V):=[(Sum.inr "name", .str nm),(Sum.inr "known", .ref kd),(Sum.inr "last", .ref ld),(Sum.inr "own",ov),(Sum.inr "turns", .int tn)]
section
variable{nm:Str}{kd ld:Addr}{ov:V}{tn:Int}{H:Hp}{h:Addr}
theorem zcx(e:H h=some (.dK (zaN nm kd ld ov tn))):DGet H h (.str "name") (some (.str nm)):=DGet.k (k:=Sum.inr "name") e
theorem zec(e:H h=some (.dK (zaN nm kd ld ov tn))):DGet H h (.str "known") (some (.ref kd)):=DGet.k (k:=Sum.inr "known") e
theorem zjT(e:H h=some (.dK (zaN nm kd ld ov tn))):DGet H h (.str "last") (some (.ref ld)):=DGet.k (k:=Sum.inr "last") e
theorem zdo(e:H h=some (.dK (zaN nm kd ld ov tn))):DGet H h (.str "own") (some ov):=DGet.k (k:=Sum.inr "own") e
theorem zl3(e:H h=some (.dK (zaN nm kd ld ov tn))):DGet H h (.str "turns") (some (.int tn)):=DGet.k (k:=Sum.inr "turns") e
theorem zhw{x:V}:zO (zaN nm kd ld ov tn) (Sum.inr "own") x=zaN nm kd ld x tn:=by rfl
theorem zk9{x:Int}:zO (zaN nm kd ld ov tn) (Sum.inr "turns") (.int x)=zaN nm kd ld ov x:=by rfl
end
def OwnAt(H:Hp)(v:V):Option WM->Prop
 |none=>v= .non
 |some e=>∃g,v= .ref g/\GoR H g (some e)
theorem OwnAt.mono{H H':Hp}{v:V}{b:Option WM}(h:OwnAt H v b)(m:∀c xs,H c=some (.tup xs)->H' c=some (.tup xs)):OwnAt H' v b:=by
 cases b with
 |none=>exact h
 |some e=>obtain ⟨g,e1,g1⟩:=h;exact⟨g,e1,g1.mono m⟩
structure HoAt(hs:List Str)(H:Hp)(h kd ld:Addr)(nm:Str)(ov:V)(tn:Int)(b:Option WM)(kk:List (Key×V))(hm:Tb)(kl:List (Key×V))(tm:Tb):Prop where
 hh:H h=some (.dK (zaN nm kd ld ov tn))
 hk:H kd=some (.dK kk)
 tk:TbL H kk hm
 ok:TbOk hs hrR hm
 hl:H ld=some (.dK kl)
 tl:TbL H kl tm
 ol:TbOk hs wmR tm
 ow:OwnAt H ov b
 go:GoOk nm b
 n1:h≠kd
 n2:h≠ld
 n3:kd≠ld
noncomputable def zh5:Sp:=λvs H Q _=>∃(nm:Str),vs=[.str nm]/\∀(h kd ld:Addr) (H':Hp),H h=none->H kd=none->H ld=none->h≠kd->h≠ld->kd≠ld->H' h=some (.dK (zaN nm kd ld .non 0))->H' kd=some (.dK [])->H' ld=some (.dK [])->Same H H'->Q (.ref h) H'
theorem zk3(Y:Ev K mg):FnOk P w K mg base CX0 1 Y.a__law_home Y.d__law_home zbX zh5:=by
 refine Y._law_home.fn.okQ ziM (λvs H Q E h=>?_) (λcdv A outer s H vs Q E hr h=>?_)
 ·obtain ⟨nm,rfl,_⟩:=h;rfl
 ·obtain ⟨nm,rfl,q⟩:=h
  refine⟨_,(zj (zz (zpx (ziG zD (qv 0) (ziG zD zeD (ziG zD zeD (ziG zD z9 (ziG zD zf zpm)))))))),?_⟩
  refine λh hh=>⟨_,rfl,λkd hkd=>λld hld=>?_⟩
  have S1:=Same.new (o:= .dK []) hh
  have S2:=Same.new (o:= .dK []) hkd
  have S3:=Same.new (o:= .dK []) hld
  have n1:h≠kd:=ze zb hkd
  have n2:h≠ld:=ze (S2 _ _ zb) hld
  have n3:kd≠ld:=ze zb hld
  refine⟨S3 _ _ (S2 _ _ zb),zaN nm kd ld .non 0,rfl,(by decide:5<=15),?_⟩
  have em:zeu [] (zaN nm kd ld .non 0)=zaN nm kd ld .non 0:=by rfl
  rw[em]
  refine q h kd ld _ hh (zaU S1 hkd) (zaU (S1.trans S2) hld) n1 n2 n3 zb ?_ ?_ λc o e=>?_
  ·rw[zh (Ne.symm n1)];exact S3 _ _ zb
  ·rw[zh (Ne.symm n2)];exact zb
  ·rw[zh (ze e hh)];exact S3 _ _ (S2 _ _ (S1 _ _ e))
noncomputable def zg0(K:PySem.W.Frag):Sp:=λvs H Q _=>∃(v:V) (b:Option WM),vs=[v]/\OwnAt H v b/\zcN b/\∀u,(∀H',(∀c xs,H c=some (.tup xs)->H' c=some (.tup xs))->TrC K H' u (zcl b))->Q u H
theorem zia(Y:Ev K mg):FnOk P w K mg base CX0 1 Y.a__law_way Y.d__law_way zbL (zg0 K):=by
 refine Y._law_way.fn.okQ zjz (λvs H Q E h=>?_) (λcdv A outer s H vs Q E hr h=>?_)
 ·obtain ⟨v,b,rfl,_⟩:=h;rfl
 ·obtain ⟨v,b,rfl,ow,wk,q⟩:=h
  refine⟨_,(zj (zz (znt (zA zdH (qv 0) z9) z9 (zP ix_tup (qv 0) zf)))),?_⟩
  cases b with
  |none=>
   cases(show v= .non from ow)
   exact⟨_,rfl,rfl,_,rfl,zaM rfl (q .non λ_ _=> .non)⟩
  |some e=>
   obtain⟨g,rfl,x,y,hg,wa⟩:=ow
   exact⟨_,rfl,rfl,_,rfl,zac rfl ⟨_,rfl,g,_,0,_,rfl,rfl, .inl (.inl hg),at0,q x λH' m=>zbx (wa.mono m) wk⟩⟩
end
section
variable{P:Program}{w:World}{K:PySem.W.Frag}{mg:Str->Option Value}{base:Heap}
noncomputable def zfe:Sp:=λvs H Q _=>∃(h kd ld:Addr) (v:V) (nm:Str) (ov:V) (tn:Int) (b:Option WM) (kk kl:List (Key×V)) (hm tm:Tb) (g:Str) (hs:List Str) (ps:List (Str×Str)) (lks hds:List D),vs=[v, .ref h]/\HoAt hs H h kd ld nm ov tn b kk hm kl tm/\Rep H v (zaf g hs ps lks hds)/\TownOk g hs ps lks hds/\(∀d∈hds,∃ds,d= .tup ds/\ds.length<=12)/\nm∈hs/\
 ∀(l:Addr) (us:List V) (kl':List (Key×V)) (H':Hp),H l=none->H' l=some (.lst us)->LtsO H' nm us (zbr (zv hs hds nm) b tm (due hs ps nm))->HoAt hs H' h kd ld nm ov tn b kk hm kl' (zbj (zv hs hds nm) b tm (due hs ps nm))->Keep ld H H'->Q (.ref l) H'
theorem zgM(Y:Ev K mg):FnOk P w K mg base CX0 6 Y.a__law_tell Y.d__law_tell zbp zfe:=by
 have G_tied:FnOk P w K mg base CX0 1 Y.a_tied Y.d_tied zco zds:=zcZ Y
 have G_handed:FnOk P w K mg base CX0 5 Y.a_handed Y.d_handed zcO zel:=zfq Y
 refine Y._law_tell.fn.okQ c__law_tell (λvs H Q E h=>?_) (λcdv A outer s H vs Q E hr h=>?_)
 ·obtain ⟨h,kd,ld,v,nm,ov,tn,b,kk,kl,hm,tm,g,hs,ps,lks,hds,rfl,_⟩:=h;rfl
 ·obtain ⟨h,kd,ld,v,nm,ov,tn,b,kk,kl,hm,tm,g,hs,ps,lks,hds,rfl,A0,hv,T,hf,hnm,q⟩:=h
  have T10:=T.ten
  have hh:=A0.hh
  have hld:=A0.hl
  refine⟨_,(zg (zw 2 c__law_tell.nd (zcq zc))
   (zg (zb1 PassesOwn.never rfl (zeE (zk G_tied (hr.mono (by decide)) Y.tied.mg Y.tied.kp Y.tied.b .nil zm (za (qv 0) (za (zaj (hu1 hr) (qv 1) zD) zc)))) (zr 3 c__law_tell.nd) (zg (zcw (zc5 (hu1 hr) (zaj (hu1 hr) (qv 1) zD) (qv 3) (zx (za zf (za z9 (za (zx zc) zc))))) (zcV 3 rfl (zy (zr 4 c__law_tell.nd) (zy (zr 5 c__law_tell.nd) (zy (zr 6 c__law_tell.nd) zbb)))))
   (zg (zw 7 c__law_tell.nd (zx (za z9 (za (zx zc) zc))))
   (zdp (zab (zA zdu (zaj (hu1 hr) (qv 1) zD) z9) (zg (zw 8 c__law_tell.nd (zk G_handed (hr.mono (by decide)) Y.handed.mg Y.handed.kp Y.handed.b .nil zm (za (qv 0) (za (zP ix_tup (zaj (hu1 hr) (qv 1) zD) zf) (za (zP ix_tup (zaj (hu1 hr) (qv 1) zD) zf) (za (qv 3) zc))))))
   (zj (zab (zA zdu (qv 8) z9) (zj (zw 7 c__law_tell.nd (zx (za (zP ix_tup (zaj (hu1 hr) (qv 1) zD) zf) (za (qv 8) zc))))) zM))) zM)
   (zj (zab (zA (zej (zeY hr)) (qv 7) (zx (za (qv 5) (za (qv 6) zc)))) (zg (zcm (hu1 hr) (zaj (hu1 hr) (qv 1) zD) (qv 3) (zE zb9 (zx (za (zE zY (qv 4) zf) zc)) (qv 7)))
   (zj (zcg (zga PySem.F.plainAttrs_list PySem.F.slot_list_append PySem.F.type_list_append zaZ (qv 2) (za (zE zb9 (zx (za (zaj (hu1 hr) (qv 1) zD) (za (qv 3) (za (zE zY (qv 4) zf) zc)))) (qv 7)) zc))))) zM))))))
   (zj (zz (qv 2))))),?_⟩
  refine⟨few rfl,λlf hlf=>?_⟩
  have S1:=Same.new (o:= .lst ([]:List V)) hlf
  have nlt:lf≠ld:=Ne.symm (ze hld hlf)
  have nlk:lf≠kd:=Ne.symm (ze A0.hk hlf)
  have nlh:lf≠h:=Ne.symm (ze hh hlf)
  refine⟨_,rfl,_,rfl,h,_,rfl,zcx (S1 _ _ hh),v,nm,g,hs,ps,lks,hds,rfl,hv.same S1,T,λlt ts H2 hlt ht2 tp tsr s2=>?_⟩
  have ets:=zfF T tp tsr
  have tin:∀o∈ts,o∈hs:=λo ho=>zc3 T (tp.mem_iff.mp ho)
  have tl:ts.length<=10:=by rw[tp.length_eq];exact zcM T nm
  rw[←ets] at q
  have nltt:lt≠ld:=λz=>by rw[z,S1 _ _ hld] at hlt;cases hlt
  have nltf:lt≠lf:=λz=>by rw[z,zb] at hlt;cases hlt
  have offok:∀o,zcN (zcr (zv hs hds nm) b o):=λo=>zjF T hf hnm A0.go
  obtain⟨j,rs,hj,hdj,er,hk,h12⟩:=zhh T hf hnm
  rw[er] at q offok
  have s02:=S1.trans s2
  refine⟨lt,rfl,⟨_,SqL.of ht2⟩,?_⟩
  refine zaP (zdt (K:=K) (xs:=ts.map V.str)) (λi σ' H'=>(∃o3 o4 o5 o6 o7 o8,σ'=[some v,some (.ref h),some (.ref lf),o3,o4,o5,o6,o7,o8])/\H' lt=some (.lst (ts.map V.str))/\(∃kvs us,H' ld=some (.dK kvs)/\TbL H' kvs (zbj rs b tm (ts.take i))/\TbOk hs wmR (zbj rs b tm (ts.take i))/\H' lf=some (.lst us)/\LtsO H' nm us (zbr rs b tm (ts.take i)))/\Keep ld H H') ?_ ?_ ?_ ?_
  ·exact ⟨⟨_,_,_,_,_,_,rfl⟩,ht2,⟨kl,[],s02 _ _ hld,A0.tl.mono λc xs e=>s02 _ _ e,A0.ol,s2 _ _ zb, .nil⟩,Keep.of s02⟩
  ·rintro i σ' H' ⟨_,h,_⟩
   exact SqL.of h
  ·rintro i y σ' H3 hi hy ⟨⟨o3,o4,o5,o6,o7,o8,rfl⟩,ht3,⟨kvs,us,hk3,tb3,to3,hf3,R3⟩,k3⟩
   obtain⟨o,ho,rfl⟩:∃o,ts[i]?=some o/\y= .str o:=by
    rw[List.getElem?_map] at hy
    cases e:ts[i]? with
    |none=>rw[e] at hy;cases hy
    |some th=>rw[e] at hy;cases hy;exact⟨th,rfl,rfl⟩
   rw[List.length_map] at hi
   have hh3:=k3 _ _ A0.n2 hh
   have ohs:=tin o (List.mem_of_getElem? ho)
   have tk:ts.take (i+1)=ts.take i ++ [o]:=by rw[List.take_add_one,ho];rfl
   have nl3:=zdf (rs:=rs) (b:=b) (os:=ts.take i) (tm:=tm)
   rw[List.length_take] at nl3
   rw[tk,zfk,zev]
   generalize zbj rs b tm (ts.take i)=t3 at *
   generalize zbr rs b tm (ts.take i)=L3 at *
   have kt:∀c xs,H c=some (.tup xs)->H3 c=some (.tup xs):=λc xs e=>k3 _ _ (zB e hld (λz=>nomatch z)) e
   have hv3:=zH hv T kt
   refine⟨_,rfl,h,_,rfl,zjT hh3,ld,rfl, .inl ⟨_, .inl hk3⟩,_,rfl,few rfl,λe4 he4=>⟨few rfl,λz4 hz4=>?_⟩⟩
   have s34:=(Same.new (o:= .tup ([]:List V)) he4).trans (Same.new (o:= .tup [V.int 0,V.non,V.ref e4]) hz4)
   have ez4:(upd (upd H3 e4 (.tup ([]:List V))) z4 (.tup [V.int 0,V.non,V.ref e4])) z4=some (.tup [V.int 0,V.non,V.ref e4]):=zb
   have ee4:(upd (upd H3 e4 (.tup ([]:List V))) z4 (.tup [V.int 0,V.non,V.ref e4])) e4=some (.tup []):=Same.new hz4 _ _ zb
   generalize (upd (upd H3 e4 (HO.tup ([]:List V))) z4 (HO.tup [V.int 0,V.non,V.ref e4]))=H4 at *
   have m34:∀c xs,H3 c=some (.tup xs)->H4 c=some (.tup xs):=λc xs e=>s34 _ _ e
   have hk4:=s34 _ _ hk3
   have hh4:=s34 _ _ hh3
   obtain⟨A3,x3,y3,eA,hA,tx,ty⟩:∃A x y,(zal kvs (Sum.inr o)).getD (.ref z4)= .ref A/\H4 A=some (.tup [.int (zcF (zu t3 o)),x,y])/\(∀H',(∀c xs,H4 c=some (.tup xs)->H' c=some (.tup xs))->TrC K H' x (zcl (z5 t3 o)))/\∀H',(∀c xs,H4 c=some (.tup xs)->H' c=some (.tup xs))->TrC K H' y (zb3 (z5 t3 o)):=by
    have wok:=zkt to3 o
    unfold z5 at wok⊢
    rcases tb3.look o with⟨e1,e2⟩|⟨r,v',e1,e2,t,x,y,rfl,ht,wa⟩
    ·rw[e1,e2]
     exact⟨z4, .non, .ref e4,rfl,ez4,λ_ _=> .non,λH' m=> .tup (.inl (.inl (m _ _ ee4))) rfl λi v d e1=>by cases e1⟩
    ·rw[e1] at wok⊢
     rw[e2]
     exact⟨t,x,y,rfl,m34 _ _ ht,λH' m=>zbx (wa.mono λc xs e=>m _ _ (m34 _ _ e)) wok,λH' m=>zb4 (wa.mono λc xs e=>m _ _ (m34 _ _ e)) wok⟩
   refine⟨_,DGet.k (k:=Sum.inr o) hk4,?_⟩
   rw[eA]
   generalize enr:zcF (zu t3 o)=nr at *
   refine⟨A3,_,rfl, .inl (.inl hA),rfl,_,_,rfl,_,_,rfl,_,_,rfl,rfl,?_⟩
   refine⟨few rfl,λe5 he5=>⟨few rfl,λq5 hq5=>?_⟩⟩
   have s45:=(Same.new (o:= .tup ([]:List V)) he5).trans (Same.new (o:= .tup [V.non,V.ref e5]) hq5)
   have G5:GoR (upd (upd H4 e5 (.tup ([]:List V))) q5 (.tup [V.non,V.ref e5])) q5 none:=⟨.non, .ref e5,zb,rfl,e5,rfl,Same.new hq5 _ _ zb⟩
   show zpT _ _ _ _ (upd (upd H4 e5 (.tup ([]:List V))) q5 (.tup [V.non,V.ref e5]))
   generalize (upd (upd H4 e5 (HO.tup ([]:List V))) q5 (HO.tup [V.non,V.ref e5]))=H5 at *
   have s35:=s34.trans s45
   have hh5:=s35 _ _ hh3
   have m35:∀c xs,H3 c=some (.tup xs)->H5 c=some (.tup xs):=λc xs e=>s35 _ _ e
   have m05:∀c xs,H c=some (.tup xs)->H5 c=some (.tup xs):=λc xs e=>m35 _ _ (kt _ _ e)
   refine⟨λσ' H'=>∃q o8,σ'=[some v,some (.ref h),some (.ref lf),some (.str o),some (.int nr),some x3,some y3,some (.ref q),o8]/\GoR H' q (zcr rs b o)/\Same H5 H',?_,?_⟩
   ·have ow5:=A0.ow.mono m05
    match b,ow5,A0.go with
    |none,ow5,_=>
     cases(show ov= .non from ow5)
     exact⟨_,rfl,h,_,rfl,zdo hh5,rfl,_,rfl,zac rfl ⟨q5,_,rfl,G5,Same.refl _⟩⟩
    |some (w,ms),⟨ga,eov,x,y,hg,pw,pm,ex,ey,hpw,hpm⟩,⟨⟨ws,ew,lw⟩,nw,nms,lm⟩=>
     subst eov ex ey ew
     refine⟨_,rfl,h,_,rfl,zdo hh5,rfl,_,rfl,zaM rfl ?_⟩
     refine⟨_,rfl,_,rfl,h,_,rfl,zdo hh5,ga,_,0,_,rfl,rfl, .inl (.inl hg),at0,_,rfl,h,_,rfl,zdo hh5,ga,_,1,_,rfl,rfl, .inl (.inl hg),at1,_,rfl,v,pw,pm, .str o,nm,ws,ms,some o,g,hs,ps,lks,hds,j,rs,Mn 40,rfl,zH hv T m05,T,hj,hdj,hk,zm0 hk (by omega),⟨nms,lm⟩,hpw,hpm, .inr ⟨o,rfl,rfl,T.names o ohs⟩,nw,lw,λu H6 tu s6=>?_⟩
     have eo:zcr rs (some (nm::ws,ms)) o=(zQ (nm::ws) (some o) rs ms).map λt=>(nm::ws,t):=rfl
     rw[eo]
     cases e:zQ (nm::ws) (some o) rs ms with
     |none=>
      rw[e] at tu
      cases(show u= .non from tu)
      exact⟨_,rfl,rfl,_,rfl,zac rfl ⟨q5,_,rfl,G5.mono λc xs e=>s6 _ _ e,s6⟩⟩
     |some tt=>
      rw[e] at tu
      obtain⟨mp,rfl,hmp⟩:=tu
      have hh6:=s6 _ _ hh5
      refine⟨_,rfl,rfl,_,rfl,zaM rfl ⟨_,rfl,h,_,rfl,zdo hh6,ga,_,0,_,rfl,rfl, .inl (.inl (s6 _ _ hg)),at0,_,rfl,few rfl,λq7 hq7=>?_⟩⟩
      have S7:=Same.new (o:= .tup [V.ref pw,V.ref mp]) hq7
      exact⟨q7,_,rfl,⟨.ref pw, .ref mp,zb,pw,mp,rfl,rfl,S7 _ _ (s6 _ _ hpw),S7 _ _ hmp⟩,s6.trans S7⟩
   rintro σ' H6 ⟨qa,o8',rfl,⟨x4,y4,hq4,wa4⟩,s56⟩
   refine⟨_,rfl,_,rfl,_,rfl,few rfl,λp5 hp5=>?_⟩
   have S5:=Same.new (o:= .tup [x3,y3]) hp5
   have s37:=(s35.trans s56).trans S5
   have e7:(upd H6 p5 (.tup [x3,y3])) p5=some (.tup [x3,y3]):=zb
   have hq7:=S5 _ _ hq4
   have wa7:=wa4.mono λc xs e=>S5 _ _ e
   have m47:∀c xs,H4 c=some (.tup xs)->(upd H6 p5 (.tup [x3,y3])) c=some (.tup xs):=λc xs e=>S5 _ _ (s56 _ _ (s45 _ _ e))
   generalize (upd H6 p5 (HO.tup [x3,y3]))=H7 at *
   have m37:∀c xs,H3 c=some (.tup xs)->H7 c=some (.tup xs):=λc xs e=>s37 _ _ e
   refine⟨_,_,zfc hq7 (zbx wa7 (offok o)) (zb4 wa7 (offok o)),zfc e7 (tx H7 m47) (ty H7 m47),zgK,_,rfl,?_⟩
   rw[zls]
   by_cases eo:zcr rs b o=z5 t3 o
   ·rw[decide_eq_true eo]
    have et:zbF rs b t3 o=t3:=by unfold zbF;rw[if_pos eo]
    have en:zdP rs b t3 o=[]:=by unfold zdP;rw[if_pos eo]
    rw[et,en,List.append_nil]
    exact zac rfl ⟨⟨_,_,_,_,_,_,rfl⟩,s37 _ _ ht3,⟨kvs,us,s37 _ _ hk3,tb3.mono m37,to3,s37 _ _ hf3,R3.mono m37⟩,k3.trans (Keep.of s37)⟩
   rw[decide_eq_false eo]
   have et:zbF rs b t3 o=zcC t3 o (zcF (zu t3 o)+1,zcr rs b o):=by unfold zbF;rw[if_neg eo]
   have en:zdP rs b t3 o=[(o,zcF (zu t3 o)+1,zcr rs b o)]:=by unfold zdP;rw[if_neg eo]
   have tok:=zhJ (rs:=rs) (b:=b) to3 ohs (offok o)
   rw[et] at tok⊢
   rw[en]
   rw[enr] at tok⊢
   refine zaM rfl ⟨_,rfl,_,_,rfl,rfl,few rfl,λp6 hp6=>?_⟩
   have S6:=Same.new (o:= .tup [V.int (nr+1)]) hp6
   refine⟨_,rfl,zav (xs:=[V.int (nr+1)]) (ys:=[x4,y4]) zb (S6 _ _ hq7) (by decide:1+2<=1000) λp7 H8 hp7 s7=>?_⟩
   have hp7:H8 p7=some (.tup [V.int (nr+1),x4,y4]):=hp7
   have s78:=S6.trans s7
   have s38:=s37.trans s78
   have hh8:=s38 _ _ hh3
   have hk8:=s38 _ _ hk3
   have hq8:=s78 _ _ hq7
   have hf8:=s38 _ _ hf3
   have ht8:=s38 _ _ ht3
   have wa8:=wa7.mono λc xs e=>s78 _ _ e
   have kl3:=tb3.len
   have t3l:=to3.len
   refine⟨_,rfl,h,_,rfl,zjT hh8,_,rfl,ld,_,rfl, .inl ⟨kvs,Sum.inr o,hk8,rfl,zp (by omega),rfl⟩,?_⟩
   have nq:∀{c xs},H8 c=some (.tup xs)->c≠ld:=λ{c xs} e=>zB e hk8 (λz=>nomatch z)
   have m89:∀c xs,H8 c=some (.tup xs)->upd H8 ld (.dK (zO kvs (Sum.inr o) (.ref p7))) c=some (.tup xs):=λc xs e=>by rw[zh (nq e)];exact e
   have k89:Keep ld H8 (upd H8 ld (.dK (zO kvs (Sum.inr o) (.ref p7)))):=Keep.upd _ _ _
   have hk9:upd H8 ld (.dK (zO kvs (Sum.inr o) (.ref p7))) ld=some (.dK (zO kvs (Sum.inr o) (.ref p7))):=zb
   generalize (upd H8 ld (.dK (zO kvs (Sum.inr o) (.ref p7))))=H9 at *
   have hf9:=k89 _ _ nlt hf8
   have hh9:=k89 _ _ A0.n2 hh8
   have ht9:=k89 _ _ nltt ht8
   refine⟨_,rfl, .inl ⟨rfl,_,SqL.of hf9⟩,_,rfl,h,_,rfl,zcx hh9,_,rfl,_,rfl,_,_,rfl,rfl,few rfl,λp9 hp9=>?_⟩
   have S9:=Same.new (o:= .tup [V.str nm,V.str o,V.int (nr+1)]) hp9
   refine⟨_,rfl,zav (xs:=[V.str nm,V.str o,V.int (nr+1)]) (ys:=[x4,y4]) zb (S9 _ _ (m89 _ _ hq8)) (by decide:3+2<=1000) λpA HA hpA sA=>?_⟩
   have hpA:HA pA=some (.tup [V.str nm,V.str o,V.int (nr+1),x4,y4]):=hpA
   have s9A:=S9.trans sA
   have m8A:∀c xs,H8 c=some (.tup xs)->HA c=some (.tup xs):=λc xs e=>s9A _ _ (m89 _ _ e)
   have m3A:∀c xs,H3 c=some (.tup xs)->HA c=some (.tup xs):=λc xs e=>m8A _ _ (s38 _ _ e)
   have hfA:=s9A _ _ hf9
   have ul:=R3.len
   have mB:∀c xs,HA c=some (.tup xs)->upd HA lf (.lst (us ++ [.ref pA])) c=some (.tup xs):=λc xs e=>by rw[zh (zB e hfA (λz=>nomatch z))];exact e
   refine⟨lf,us,_,rfl,rfl,hfA,zp (by omega),⟨_,_,_,_,_,_,rfl⟩,?_,⟨zO kvs (Sum.inr o) (.ref p7),us ++ [.ref pA],?_,?_,tok,zb,?_⟩,?_⟩
   ·rw[zh nltf];exact s9A _ _ ht9
   ·rw[zh (Ne.symm nlt)];exact s9A _ _ hk9
   ·exact (tb3.mono λc xs e=>mB _ _ (m3A _ _ e)).put ⟨p7,x4,y4,rfl,mB _ _ (m8A _ _ hp7),wa8.mono λc xs e=>mB _ _ (m8A _ _ e)⟩
   ·exact (R3.mono λc xs e=>mB _ _ (m3A _ _ e)).append (.cons ⟨pA,x4,y4,rfl,mB _ _ hpA,wa8.mono λc xs e=>mB _ _ (m8A _ _ e)⟩ .nil)
   ·exact λc u nc e=>by rw[zh (ze e hlf)];exact s9A _ _ (k89 c u nc (s38 _ _ (k3 c u nc e)))
  ·rintro σ' H3 ⟨⟨o3,o4,o5,o6,o7,o8,rfl⟩,ht3,⟨kvs,us,hk3,tb3,to3,hf3,R3⟩,k3⟩
   rw[List.length_map,List.take_length] at tb3 to3 R3
   have kt:∀c xs,H c=some (.tup xs)->H3 c=some (.tup xs):=λc xs e=>k3 _ _ (zB e hld (λz=>nomatch z)) e
   exact⟨_,rfl,q lf us kvs H3 hlf hf3 R3 ⟨k3 _ _ A0.n2 hh,k3 _ _ A0.n3 A0.hk,A0.tk.mono kt,A0.ok,hk3,tb3,to3,A0.ow.mono kt,A0.go,A0.n1,A0.n2,A0.n3⟩ k3⟩
end
section
variable{P:Program}{w:World}{K:PySem.W.Frag}{mg:Str->Option Value}{base:Heap}
theorem HoAt.same{hs:List Str}{H H':Hp}{h kd ld:Addr}{nm:Str}{ov:V}{tn:Int}{b:Option WM}{kk kl:List (Key×V)}{hm tm:Tb}(a:HoAt hs H h kd ld nm ov tn b kk hm kl tm)(s:Same H H'):HoAt hs H' h kd ld nm ov tn b kk hm kl tm:=
 ⟨s _ _ a.hh,s _ _ a.hk,a.tk.mono λc xs e=>s _ _ e,a.ok,s _ _ a.hl,a.tl.mono λc xs e=>s _ _ e,a.ol,a.ow.mono λc xs e=>s _ _ e,a.go,a.n1,a.n2,a.n3⟩
theorem zgF{K:PySem.W.Frag}{a:Addr}{xs:List V}{lo hi:Option Int}{H:Hp}{Q:VK}(h:H a=some (.tup xs))(k:∀p H',H' p=some (.tup (zcp xs lo hi))->Same H H'->Q (.ref p) H'):zqt K (.ref a) lo hi H Q:=
 ⟨a,xs,rfl, .inl (.inl h),λz=>k a H (by rw[z];exact h) (Same.refl _),λp hp=>k p _ zb (Same.new hp)⟩
def BvAt(nm:Str)(rs:List D)(H:Hp)(bv:V):Option WM->Prop
 |none=>bv= .non
 |some e=>∃t pw pm w,e.1=nm::w/\bv= .ref t/\H t=some (.tup [.int (-(wI rs e)), .int (w.length:Int), .ref pw, .ref pm])/\H pw=some (.tup (w.map V.str))/\H pm=some (.tup (e.2.map V.str))/\(∀y∈w,zi y=true)/\w.length<=10
theorem BvAt.mono{nm:Str}{rs:List D}{H H':Hp}{bv:V}{b:Option WM}(h:BvAt nm rs H bv b)(m:∀c xs,H c=some (.tup xs)->H' c=some (.tup xs)):BvAt nm rs H' bv b:=by
 cases b with
 |none=>exact h
 |some e=>obtain ⟨t,pw,pm,w,h1,h2,h3,h4,h5,h6,h7⟩:=h;exact⟨t,pw,pm,w,h1,h2,m _ _ h3,m _ _ h4,m _ _ h5,h6,h7⟩
theorem zlW{a b:Int}{nm:Str}{w w':List Str}:ltK (a,(w.length:Int),w) (b,(w'.length:Int),w')=ltK (a,((nm::w).length:Int),nm::w) (b,((nm::w').length:Int),nm::w'):=by
 unfold ltK
 simp only[List.length_cons]
 by_cases c:a=b
 ·rw[if_pos c,if_pos c]
  by_cases c2:(w.length:Int)=(w'.length:Int)
  ·rw[if_pos c2,if_pos (by push_cast;omega),ltL,if_pos rfl]
  ·rw[if_neg c2,if_neg (by push_cast;omega)]
   rw[Bool.eq_iff_iff,decide_eq_true_iff,decide_eq_true_iff]
   push_cast;omega
 ·rw[if_neg c,if_neg c]
noncomputable def zdg(nm:Str)(rs:List D)(hm:Tb)(os:List Str):List WM:=os.filterMap λo=>(zu hm o).bind λr=>za1 nm rs (o,r)
theorem ziZ{nm:Str}{rs:List D}{hm:Tb}{os:List Str}{o:Str}:zdg nm rs hm (os ++ [o])=zdg nm rs hm os ++((zu hm o).bind λr=>za1 nm rs (o,r)).toList:=by
 unfold zdg
 rw[List.filterMap_append]
 congr 1
theorem zkT{rs:List D}{es:List WM}{b:Option WM}{e:WM}(h:zbt rs es b):zbt rs (es ++ [e]) (match b with|none=>some e|some e0=>if ltK (kE rs e) (kE rs e0)=true then some e else some e0):=by
 cases b with
 |none=>
  have h:es=[]:=h
  subst h
  exact⟨by simp,λe' he' ne=>by rw[List.nil_append,List.mem_singleton] at he';rw[he'] at ne;exact absurd rfl ne⟩
 |some e0=>
  by_cases c:ltK (kE rs e) (kE rs e0)=true
  ·show zbt rs (es ++ [e]) (if ltK (kE rs e) (kE rs e0)=true then some e else some e0)
   rw[if_pos c]
   refine⟨by simp,λe' he' ne=>?_⟩
   rcases List.mem_append.mp he' with h1|h1
   ·by_cases c2:kE rs e'=kE rs e0
    ·rw[c2];exact c
    ·exact zi2 c (h.2 e' h1 c2)
   ·rw[List.mem_singleton.mp h1] at ne;exact absurd rfl ne
  ·show zbt rs (es ++ [e]) (if ltK (kE rs e) (kE rs e0)=true then some e else some e0)
   rw[if_neg c]
   refine⟨List.mem_append_left _ h.1,λe' he' ne=>?_⟩
   rcases List.mem_append.mp he' with h1|h1
   ·exact h.2 e' h1 ne
   ·rw[List.mem_singleton.mp h1] at ne⊢
    exact zhM ne (by simpa using c)
theorem zlR{rs:List D}{es es':List WM}{b:Option WM}(h:zbt rs es b)(m:∀e,e∈es↔e∈es'):zbt rs es' b:=by
 cases b with
 |none=>
  have h:es=[]:=h
  subst h
  show es'=[]
  cases es' with
  |nil=>rfl
  |cons e _=>exact absurd ((m e).mpr List.mem_cons_self) (by simp)
 |some e=>exact ⟨(m e).mp h.1,λe' he' ne=>h.2 e' ((m e').mpr he') ne⟩
noncomputable def zfE:Sp:=λvs H Q _=>∃(h kd ld:Addr) (v:V) (nm:Str) (ov:V) (tn:Int) (b:Option WM) (kk kl:List (Key×V)) (hm tm:Tb) (g:Str) (hs:List Str) (ps:List (Str×Str)) (lks hds:List D),vs=[v, .ref h]/\HoAt hs H h kd ld nm ov tn b kk hm kl tm/\Rep H v (zaf g hs ps lks hds)/\TownOk g hs ps lks hds/\nm∈hs/\(nm=g->b=some ([nm],[]))/\(∀x r,zu hm x=some r->x∈due hs ps nm)/\
 ∀(ov':V) (tn':Int) (b':Option WM) (H':Hp),(nm=g->b'=some ([nm],[]))->(nm≠g->zbt (zv hs lks nm) (zbW nm (zv hs lks nm) hm) b')->HoAt hs H' h kd ld nm ov' tn' b' kk hm kl tm->Keep h H H'->Q .non H'
theorem zhU(Y:Ev K mg):FnOk P w K mg base CX0 6 Y.a__law_choose Y.d__law_choose za2 zfE:=by
 have G_tied:FnOk P w K mg base CX0 1 Y.a_tied Y.d_tied zco zds:=zcZ Y
 have G_worth:FnOk P w K mg base CX0 5 Y.a_worth Y.d_worth zc4 ze7:=zfn Y
 have G__law_way:FnOk P w K mg base CX0 1 Y.a__law_way Y.d__law_way zbL (zg0 K):=zia Y
 refine Y._law_choose.fn.okQ c__law_choose (λvs H Q E h=>?_) (λcdv A outer s H vs Q E hr h=>?_)
 ·obtain ⟨h,kd,ld,v,nm,ov,tn,b,kk,kl,hm,tm,g,hs,ps,lks,hds,rfl,_⟩:=h;rfl
 ·obtain ⟨h,kd,ld,v,nm,ov,tn,b,kk,kl,hm,tm,g,hs,ps,lks,hds,rfl,A0,hv,T,hnm,eg,hkey,q⟩:=h
  have hh:=A0.hh
  obtain⟨pt,us0,rfl,hpt,h0⟩:=zcH hv
  obtain⟨j,rs,hj,hlj,er,hlk⟩:=zg5 T hnm
  rw[er] at q
  have T10:=T.ten
  have hnn:=T.names nm hnm
  refine⟨_,(zg (zab (zA zaO (zaj (hu1 hr) (qv 1) zD) (zP ix_tup (qv 0) zf)) (zj zpb) zM)
   (zg (zw 2 c__law_choose.nd (zaj (hu1 hr) (qv 1) zD))
   (zg (zw 3 c__law_choose.nd z9)
   (zg (zb1 PassesOwn.never rfl (zeE (zk G_tied (hr.mono (by decide)) Y.tied.mg Y.tied.kp Y.tied.b .nil zm (za (qv 0) (za (zaj (hu1 hr) (qv 1) zD) zc)))) (zr 4 c__law_choose.nd) (zg (zcw (zc5 (hu1 hr) (zaj (hu1 hr) (qv 1) zD) (qv 4) (zx (za zf (za z9 (za (zx zc) zc))))) (zcV 3 rfl (zy (zr 5 c__law_choose.nd) (zy (zr 6 c__law_choose.nd) (zy (zr 7 c__law_choose.nd) zbb)))))
   (zj (zab (t_w (zoM (zA zdu (qv 6) z9) (zms (zA zd3 (zaj (hu1 hr) (qv 1) zD) (qv 6))))) (zg (zw 8 c__law_choose.nd (zk G_worth (hr.mono (by decide)) Y.worth.mg Y.worth.kp Y.worth.b .nil zm (za (qv 0) (za (zE zb9 (zx (za (zaj (hu1 hr) (qv 1) zD) zc)) (qv 6)) (za (qv 7) zc)))))
   (zj (zab (t_w (zoM (zA zdu (qv 8) z9) (zms (t_w (zk6 (zA zdH (qv 3) z9) (zgr (zA (zpM (zeY hr)) (zx (za (zhb zc2 (qv 8)) (za (zF zam Y.len zch (za (qv 6) zc)) (za (qv 6) zc)))) (zm7 zjX (qv 3) zhz (zhs zf))))))))) (zj (zw 3 c__law_choose.nd (zx (za (zhb zc2 (qv 8)) (za (zF zam Y.len zch (za (qv 6) zc)) (za (qv 6) (za (qv 7) zc))))))) zM))) zM))))
   (zg (zcm (hu1 hr) (qv 1) zD z9)
   (zdp (zab (zA zdu (qv 3) z9) (zj (zcm (hu1 hr) (qv 1) zD (zx (za (zE zb9 (zx (za (zaj (hu1 hr) (qv 1) zD) zc)) (zP ix_tup (qv 3) zf)) (za (zP ix_tup (qv 3) zf) zc))))) zM)
   (zj (zab (zA (zej (zeY hr)) (zk G__law_way (hr.mono (by decide)) Y._law_way.mg Y._law_way.kp Y._law_way.b .nil zm (za (qv 2) zc)) (zk G__law_way (hr.mono (by decide)) Y._law_way.mg Y._law_way.kp Y._law_way.b .nil zm (za (zaj (hu1 hr) (qv 1) zD) zc))) (zj (zo8 (hu1 hr) (qv 1) zD zf zm5)) zM)))))))),?_⟩
  refine⟨_,rfl,h,_,rfl,zcx hh,_,rfl,pt,us0,0,_,rfl,rfl, .inl (.inl hpt),zI (j:=0) h0,rfl,_,rfl,?_⟩
  rw[zbD]
  by_cases e:nm=g
  ·rw[decide_eq_true e]
   exact zaM rfl (q ov tn b H eg (λz=>absurd e z) A0 (Keep.refl _ _))
  rw[decide_eq_false e]
  refine zac rfl ⟨_,rfl,h,_,rfl,zdo hh,?_⟩
  refine⟨_,rfl,_,rfl,h,_,rfl,zcx hh, .ref pt,nm,g,hs,ps,lks,hds,rfl,hv,T,λlt ts H2 hlt ht2 tp tsr s2=>?_⟩
  have ets:=zfF T tp tsr
  have tin:∀o∈ts,o∈hs:=λo ho=>zc3 T (tp.mem_iff.mp ho)
  refine⟨lt,rfl,⟨_,SqL.of ht2⟩,?_⟩
  refine zaP (zdt (K:=K) (xs:=ts.map V.str)) (λi σ' H'=>(∃bv bo o4 o5 o6 o7 o8,σ'=[some (.ref pt),some (.ref h),some ov,some bv,o4,o5,o6,o7,o8]/\BvAt nm rs H' bv bo/\zbt rs (zdg nm rs hm (ts.take i)) bo)/\Same H2 H') ⟨⟨.non,none,_,_,_,_,_,rfl,rfl,rfl⟩,Same.refl _⟩ ?_ ?_ ?_
  ·exact λi σ' H' z=>SqL.of (z.2 _ _ ht2)
  ·rintro i y σ' H3 hi hy ⟨⟨bv,bo,o4,o5,o6,o7,o8,rfl,bva,be⟩,s3⟩
   obtain⟨o,ho,rfl⟩:∃o,ts[i]?=some o/\y= .str o:=by
    rw[List.getElem?_map] at hy
    cases e:ts[i]? with
    |none=>rw[e] at hy;cases hy
    |some th=>rw[e] at hy;cases hy;exact⟨th,rfl,rfl⟩
   have tk:ts.take (i+1)=ts.take i ++ [o]:=by rw[List.take_add_one,ho];rfl
   have s03:=s2.trans s3
   have A3:=A0.same s03
   rw[tk,ziZ]
   refine⟨_,rfl,h,_,rfl,zec A3.hh,kd,rfl, .inl ⟨_, .inl A3.hk⟩,_,rfl,few rfl,λe4 he4=>⟨few rfl,λz4 hz4=>?_⟩⟩
   have s34:=(Same.new (o:= .tup ([]:List V)) he4).trans (Same.new (o:= .tup [V.int 0,V.non,V.ref e4]) hz4)
   have ez4:(upd (upd H3 e4 (.tup ([]:List V))) z4 (.tup [V.int 0,V.non,V.ref e4])) z4=some (.tup [V.int 0,V.non,V.ref e4]):=zb
   generalize (upd (upd H3 e4 (HO.tup ([]:List V))) z4 (HO.tup [V.int 0,V.non,V.ref e4]))=H4 at *
   have A4:=A3.same s34
   have skip:((zu hm o).bind λr=>za1 nm rs (o,r))=none->∀{H':Hp},Same H3 H'->∀{a4 a5 a6 a7 a8:Option V},(∃bv' bo' o4 o5 o6 o7 o8,([some (.ref pt),some (.ref h),some ov,some bv,a4,a5,a6,a7,a8]:L2.St)=[some (.ref pt),some (.ref h),some ov,some bv',o4,o5,o6,o7,o8]/\BvAt nm rs H' bv' bo'/\zbt rs (zdg nm rs hm (ts.take i)++((zu hm o).bind λr=>za1 nm rs (o,r)).toList) bo')/\Same H2 H':=λen {H'} s {a4 a5 a6 a7 a8}=>⟨⟨bv,bo,_,_,_,_,_,rfl,bva.mono λc xs e=>s _ _ e,by rw[en];show zbt rs (_ ++ []) bo;rw[List.append_nil];exact be⟩,s3.trans s⟩
   refine⟨_,DGet.k (k:=Sum.inr o) A4.hk,?_⟩
   rcases A4.tk.look o with⟨e1,e2⟩|⟨⟨nr,b0⟩,v',e1,e2,t,x,y,rfl,ht,wa⟩
   ·rw[e2]
    refine⟨z4,_,rfl, .inl (.inl ez4),rfl,_,_,rfl,_,_,rfl,_,_,rfl,rfl,?_⟩
    exact⟨_,rfl,rfl,_,rfl,zac rfl (zac rfl (skip (by rw[e1];rfl) s34))⟩
   ·rw[e2]
    have hok:=A0.ok.look e1
    have eb:((zu hm o).bind λr=>za1 nm rs (o,r))=za1 nm rs (o,nr,b0):=by rw[e1];rfl
    refine⟨t,_,rfl, .inl (.inl ht),rfl,_,_,rfl,_,_,rfl,_,_,rfl,rfl,?_⟩
    match b0,wa,hok,eb with
    |none,⟨ex,e5,ey,h2⟩,_,eb=>
     subst ex ey
     exact⟨_,rfl,rfl,_,rfl,zac rfl (zac rfl (skip eb s34))⟩
    |some (w,ms),⟨pw,pm,ex,ey,hpw,hpm⟩,⟨⟨ws,ew⟩,lw,nw,nms,lm⟩,eb=>
     subst ex ey
     have oe:za1 nm rs (o,nr,some (w,ms))=if nm∈w\/zcB (zT (nm::w) ms rs)=true then none else some (nm::w,ms):=rfl
     refine⟨_,rfl,rfl,_,rfl,zaM rfl ⟨_,rfl,h,_,rfl,zcx A4.hh,_,rfl,pw,_,rfl, .inr (.inl (.inl hpw)),rfl,zcP,_,rfl,?_⟩⟩
     rw[if_pos rfl,zeh,zku]
     by_cases c:nm∈w
     ·rw[decide_eq_true c]
      exact zac rfl (skip (by rw[eb,oe,if_pos (.inl c)]) s34)
     rw[decide_eq_false c]
     refine zaM rfl ?_
     refine⟨_,rfl,_,rfl,h,_,rfl,zcx A4.hh,few rfl,λb1 hb1=>?_⟩
     have B1:=Same.new (o:= .tup [V.str nm]) hb1
     refine⟨_,rfl,zav (xs:=[V.str nm]) (ys:=w.map V.str) zb (B1 _ _ hpw) (by rw[List.length_map];show 1+_<=_;omega) λb2 H5 hb2 s5=>?_⟩
     have hb2:H5 b2=some (.tup ((nm::w).map V.str)):=hb2
     have s45:=B1.trans s5
     have nw':∀y∈nm::w,zi y=true:=λy hy=>(List.mem_cons.mp hy).elim (λz=>by rw[z];exact hnn) (nw y)
     refine⟨_,rfl, .ref pt,b2,pm,nm,w,ms,g,hs,ps,lks,hds,j,rs,rfl,((hv.same s03).same s34).same s45,T,hj,hlj,hb2,s45 _ _ hpm,nw',nms,by omega,by omega,λu H6 ru s6=>?_⟩
     have s36:=(s34.trans s45).trans s6
     have s46:=s45.trans s6
     rcases zdS (ws:=nm::w) (ms:=ms) hlk with wk|⟨n,wk⟩
     ·rw[wk] at ru
      cases ru
      exact⟨_,rfl,rfl,_,rfl,zac rfl (zac rfl (skip (by rw[eb,oe,if_pos (.inr (by rw[wk];rfl))]) s36))⟩
     ·rw[wk] at ru
      cases ru
      have eo:za1 nm rs (o,nr,some (w,ms))=some (nm::w,ms):=by rw[oe,if_neg (λz=>z.elim c (λz=>by rw[wk] at z;cases z))]
      have ew1:wI rs (nm::w,ms)=n:=by unfold wI;simp only[wk]
      have hpw6:=s46 _ _ hpw
      have hpm6:=s46 _ _ hpm
      have took:∀{H7:Hp},Same H6 H7->∀{t7:Addr},H7 t7=some (.tup [.int (-n), .int ((w.map V.str).length:Int), .ref pw, .ref pm])->BvAt nm rs H7 (.ref t7) (some (nm::w,ms)):=λ{H7} s {t7} e=>⟨t7,pw,pm,w,rfl,rfl,by rw[ew1,e,List.length_map],s _ _ hpw6,s _ _ hpm6,nw,lw⟩
      rw[eb,eo]
      have bs:=zkT (e:=(nm::w,ms)) be
      refine⟨_,rfl,rfl,_,rfl,zaM rfl ?_⟩
      cases bo with
      |none=>
       cases(show bv= .non from bva)
       refine⟨_,rfl,rfl,_,rfl,zaM rfl (zaM rfl ⟨_,rfl,_,rfl,_,rfl, .inl ⟨pw,_,rfl, .inr (.inl (.inl hpw6)),_,rfl,_,rfl,few rfl,λt7 ht7=>?_⟩⟩)⟩
       have S7:=Same.new (o:= .tup [V.int (-n),V.int ((w.map V.str).length:Int),V.ref pw,V.ref pm]) ht7
       exact⟨⟨.ref t7,_,_,_,_,_,_,rfl,took S7 zb,bs⟩,(s3.trans s36).trans S7⟩
      |some e0=>
       obtain⟨t0,pw0,pm0,w0,ew0,rfl,ht0,hpw0,hpm0,nw0,lw0⟩:=id bva
       refine⟨_,rfl,rfl,_,rfl,zac rfl ?_⟩
       refine⟨_,rfl,_,rfl,_,rfl, .inl ⟨pw,_,rfl, .inr (.inl (.inl hpw6)),_,rfl,few rfl,λk1 hk1=>?_⟩⟩
       have K1:=Same.new (o:= .tup [V.int (-n),V.int ((w.map V.str).length:Int),V.ref pw]) hk1
       refine⟨_,rfl,_,rfl,?_⟩
       refine zgF (K1 _ _ (s36 _ _ ht0)) λk2 H8 hk2 s8=>?_
       have ec:zcp [V.int (-(wI rs e0)),V.int (w0.length:Int),V.ref pw0,V.ref pm0] none (some 3)=[V.int (-(wI rs e0)),V.int (w0.length:Int),V.ref pw0]:=zhQ (n:=3)
       rw[ec] at hk2
       have s68:=K1.trans s8
       have e0e:kE rs e0=(-(wI rs e0),((nm::w0).length:Int),nm::w0):=by unfold kE;rw[ew0]
       have ee:kE rs (nm::w,ms)=(-n,((nm::w).length:Int),nm::w):=by unfold kE;rw[ew1]
       refine⟨(-n,(w.length:Int),w),(-(wI rs e0),(w0.length:Int),w0),⟨k1,pw,rfl,by have:=s8 _ _ (zb (H:=H6) (a:=k1) (o:= .tup [V.int (-n),V.int ((w.map V.str).length:Int),V.ref pw]));rw[List.length_map] at this;exact this,s68 _ _ hpw6,λy hy=>zak (nw y hy)⟩,⟨k2,pw0,rfl,hk2,s68 _ _ (s36 _ _ hpw0),λy hy=>zak (nw0 y hy)⟩,_,rfl,?_⟩
       rw[zlW (nm:=nm),←ee,←e0e]
       cases cl:ltK (kE rs (nm::w,ms)) (kE rs e0)with
       |true=>
        have bs:zbt rs (zdg nm rs hm (ts.take i)++ [(nm::w,ms)]) (some (nm::w,ms)):=by
         have:=bs
         simp only[cl,if_true] at this
         exact this
        refine zaM rfl ⟨_,rfl,_,rfl,_,rfl, .inl ⟨pw,_,rfl, .inr (.inl (.inl (s68 _ _ hpw6))),_,rfl,_,rfl,few rfl,λt7 ht7=>?_⟩⟩
        have S7:=Same.new (o:= .tup [V.int (-n),V.int ((w.map V.str).length:Int),V.ref pw,V.ref pm]) ht7
        exact⟨⟨.ref t7,_,_,_,_,_,_,rfl,took (s68.trans S7) zb,bs⟩,((s3.trans s36).trans s68).trans S7⟩
       |false=>
        have bs:zbt rs (zdg nm rs hm (ts.take i)++ [(nm::w,ms)]) (some e0):=by
         have:=bs
         simp only[cl,Bool.false_eq_true,if_false] at this
         exact this
        exact zac rfl ⟨⟨.ref t0,_,_,_,_,_,_,rfl,bva.mono λc xs e=>s68 _ _ (s36 _ _ e),bs⟩,(s3.trans s36).trans s68⟩
  ·rintro σ' H3 ⟨⟨bv,bo,o4,o5,o6,o7,o8,rfl,bva,be⟩,s3⟩
   rw[List.length_map,List.take_length] at be
   have s03:=s2.trans s3
   have A3:=A0.same s03
   have be:=zlR be (es':=zbW nm rs hm) λe=>by
    rw[zdx A0.ok.nd]
    unfold zdg
    rw[List.mem_filterMap]
    constructor
    ·rintro ⟨o,_,h2⟩
     cases h3:zu hm o with
     |none=>rw[h3] at h2;cases h2
     |some r=>rw[h3] at h2;exact⟨o,r,h3,h2⟩
    ·rintro ⟨x,r,h3,h2⟩
     exact⟨x,by rw[ets];exact hkey x r h3,by rw[h3];exact h2⟩
   have gok:GoOk nm bo:=by
    cases bo with
    |none=>exact trivial
    |some e=>
     obtain⟨x,r,lk,o⟩:=(zdx A0.ok.nd).mp be.1
     exact(zhD hnn hlk (A0.ok.look lk) o).2
   refine⟨_,rfl,h,_,rfl, .inl ⟨_,Sum.inr "own",A3.hh,rfl,zp (by decide:5<=1000),rfl⟩,?_⟩
   rw[zhw]
   have m34:∀c xs,H3 c=some (.tup xs)->upd H3 h (.dK (zaN nm kd ld .non tn)) c=some (.tup xs):=λc xs e=>by rw[zh (zB e A3.hh (λz=>nomatch z))];exact e
   have k34:Keep h H3 (upd H3 h (.dK (zaN nm kd ld .non tn))):=Keep.upd _ _ _
   have hh4:upd H3 h (.dK (zaN nm kd ld .non tn)) h=some (.dK (zaN nm kd ld .non tn)):=zb
   show zpT _ _ _ _ (upd H3 h (.dK (zaN nm kd ld .non tn)))
   generalize (upd H3 h (.dK (zaN nm kd ld .non tn)))=H4 at *
   refine⟨λσ' H'=>∃ov' o4 o5 o6 o7 o8 bv',σ'=[some (.ref pt),some (.ref h),some ov,some bv',o4,o5,o6,o7,o8]/\H' h=some (.dK (zaN nm kd ld ov' tn))/\OwnAt H' ov' bo/\Keep h H3 H',?_,?_⟩
   ·have bva4:=bva.mono m34
    cases bo with
    |none=>
     cases(show bv= .non from bva4)
     exact⟨_,rfl,rfl,_,rfl,zac rfl ⟨.non,_,_,_,_,_,_,rfl,hh4,rfl,k34⟩⟩
    |some e0=>
     obtain⟨t0,pw0,pm0,w0,ew0,rfl,ht0,hpw0,hpm0,nw0,lw0⟩:=bva4
     refine⟨_,rfl,rfl,_,rfl,zaM rfl ⟨_,rfl,h,_,rfl,zcx hh4,few rfl,λb1 hb1=>?_⟩⟩
     have B1:=Same.new (o:= .tup [V.str nm]) hb1
     refine⟨_,rfl,t0,_,2,_,rfl,rfl, .inl (.inl (B1 _ _ ht0)),zI (j:=2) rfl,zav (xs:=[V.str nm]) (ys:=w0.map V.str) zb (B1 _ _ hpw0) (by rw[List.length_map];show 1+_<=_;omega) λb2 H5 hb2 s5=>?_⟩
     have hb2:H5 b2=some (.tup ((nm::w0).map V.str)):=hb2
     have s45:=B1.trans s5
     refine⟨_,rfl,t0,_,3,_,rfl,rfl, .inl (.inl (s45 _ _ ht0)),zI (j:=3) rfl,few rfl,λp6 hp6=>?_⟩
     have S6:=Same.new (o:= .tup [V.ref b2,V.ref pm0]) hp6
     have e6:(upd H5 p6 (.tup [V.ref b2,V.ref pm0])) p6=some (.tup [V.ref b2,V.ref pm0]):=zb
     have s46:=s45.trans S6
     have hb6:=S6 _ _ hb2
     generalize (upd H5 p6 (HO.tup [V.ref b2,V.ref pm0]))=H6 at *
     have hh6:=s46 _ _ hh4
     refine⟨_,rfl,h,_,rfl, .inl ⟨_,Sum.inr "own",hh6,rfl,zp (by decide:5<=1000),rfl⟩, .ref p6,_,_,_,_,_,_,rfl,by rw[zhw];exact zb,?_,(k34.trans (Keep.of s46)).trans (Keep.upd _ _ _)⟩
     have m67:∀c xs,H6 c=some (.tup xs)->upd H6 h (.dK (zO (zaN nm kd ld .non tn) (Sum.inr "own") (.ref p6))) c=some (.tup xs):=λc xs e=>by rw[zh (zB e hh6 (λz=>nomatch z))];exact e
     obtain⟨ew,em⟩:=e0
     cases(show ew=nm::w0 from ew0)
     exact⟨p6,rfl, .ref b2, .ref pm0,m67 _ _ e6,b2,pm0,rfl,rfl,m67 _ _ hb6,m67 _ _ (s46 _ _ hpm0)⟩
   rintro σ' H5 ⟨ov',o4,o5,o6,o7,o8,bv',rfl,hh5,ow5,k35⟩
   have k05:Keep h H H5:=(Keep.of s03).trans k35
   have m05:∀c xs,H c=some (.tup xs)->H5 c=some (.tup xs):=λc xs e=>k05 _ _ (zB e hh (λz=>nomatch z)) e
   have fin:∀(tn':Int) (H6:Hp),H6 h=some (.dK (zaN nm kd ld ov' tn'))->Keep h H5 H6->Q .non H6:=λtn' H6 hh6 k56=>by
    have k06:=k05.trans k56
    have m06:∀c xs,H c=some (.tup xs)->H6 c=some (.tup xs):=λc xs e=>k06 _ _ (zB e hh (λz=>nomatch z)) e
    exact q ov' tn' bo H6 (λz=>absurd z e) (λ_=>be) ⟨hh6,k06 _ _ (Ne.symm A0.n1) A0.hk,A0.tk.mono m06,A0.ok,k06 _ _ (Ne.symm A0.n2) A0.hl,A0.tl.mono m06,A0.ol,ow5.mono λc xs e=>k56 _ _ (zB e hh5 (λz=>nomatch z)) e,gok,A0.n1,A0.n2,A0.n3⟩ k06
   refine⟨_,rfl,ov,b,rfl,A0.ow.mono m05,A0.go.wm,λu1 tr1=>⟨_,rfl,h,_,rfl,zdo hh5,ov',bo,rfl,ow5,gok.wm,λu2 tr2=>⟨_,_,tr1 H5 (λ_ _ e=>e),tr2 H5 (λ_ _ e=>e),Nat.le_trans (Nat.min_le_left _ _) zdi,_,rfl,zcG (λ_=>?_) (λ_=>?_)⟩⟩⟩
   ·refine ⟨_,rfl,h,_,rfl,zl3 hh5,_,_,rfl,rfl,_, .inl ⟨_,Sum.inr "turns",hh5,rfl,zp (by decide:5<=1000),rfl⟩,?_⟩
    rw[zk9]
    exact fin _ _ zb (Keep.upd _ _ _)
   ·exact fin tn H5 hh5 (Keep.refl _ _)
end
section
variable{P:Program}{w:World}{K:PySem.W.Frag}{mg:Str->Option Value}{base:Heap}
noncomputable def ziy:Sp:=λvs H Q _=>∃(h kd ld:Addr) (v lv:V) (nm one:Str) (r:Hr) (ov:V) (tn:Int) (b:Option WM) (kk kl:List (Key×V)) (hm tm:Tb) (g:Str) (hs:List Str) (ps:List (Str×Str)) (lks hds:List D),vs=[v, .ref h,lv]/\LtO H lv one nm r/\one∈hs/\one∈due hs ps nm/\hrR one r/\HoAt hs H h kd ld nm ov tn b kk hm kl tm/\Rep H v (zaf g hs ps lks hds)/\TownOk g hs ps lks hds/\(∀d∈hds,∃ds,d= .tup ds/\ds.length<=12)/\nm∈hs/\(nm=g->b=some ([nm],[]))/\(∀x r,zu hm x=some r->x∈due hs ps nm)/\
 ∀(l:Addr) (us:List V) (ov':V) (tn':Int) (b':Option WM) (kk' kl':List (Key×V)) (tm':Tb) (L:List Lt) (H':Hp),H l=none->H' l=some (.lst us)->LtsO H' nm us L->HoAt hs H' h kd ld nm ov' tn' b' kk' (zd0 hm (one,r)) kl' tm'->(nm=g->b'=some ([nm],[]))->(∀x r',zu (zd0 hm (one,r)) x=some r'->x∈due hs ps nm)->(∀c o,c≠h->c≠kd->c≠ld->H c=some o->H' c=some o)->((r.1<=zcF (zu hm one)/\L=[]/\tm'=tm/\b'=b)\/(¬r.1<=zcF (zu hm one)/\L=zbr (zv hs hds nm) b' tm (due hs ps nm)/\tm'=zbj (zv hs hds nm) b' tm (due hs ps nm)/\(nm≠g->zbt (zv hs lks nm) (zbW nm (zv hs lks nm) (zd0 hm (one,r))) b')))->Q (.ref l) H'
theorem zkS(Y:Ev K mg):FnOk P w K mg base CX0 7 Y.a__law_hear Y.d__law_hear zbP ziy:=by
 have G__law_choose:FnOk P w K mg base CX0 6 Y.a__law_choose Y.d__law_choose za2 zfE:=zhU Y
 have G__law_tell:FnOk P w K mg base CX0 6 Y.a__law_tell Y.d__law_tell zbp zfe:=zgM Y
 refine Y._law_hear.fn.okQ zik (λvs H Q E h=>?_) (λcdv A outer s H vs Q E hr h=>?_)
 ·obtain ⟨h,kd,ld,v,lv,nm,one,r,ov,tn,b,kk,kl,hm,tm,g,hs,ps,lks,hds,rfl,_⟩:=h;rfl
 ·obtain ⟨h,kd,ld,v,lv,nm,one,r,ov,tn,b,kk,kl,hm,tm,g,hs,ps,lks,hds,rfl,⟨t,x,y,rfl,ht,wa⟩,hone,hdu,hrr,A0,hv,T,hf,hnm,eg,hkey,q⟩:=h
  have hh:=A0.hh
  have T10:=T.ten
  have hml:=A0.ok.len
  have kl':=A0.tk.len
  refine⟨_,(zg (zab (zA zoP (zP ix_tup (qv 2) zf) (zP ix_tup (zc5 (hu1 hr) (zaj (hu1 hr) (qv 1) zD) (zP ix_tup (qv 2) zf) (zx (za zf (za z9 (za (zx zc) zc))))) zf)) (zj (zz (zcq zc))) zM)
   (zg (zcm (hu1 hr) (zaj (hu1 hr) (qv 1) zD) (zP ix_tup (qv 2) zf) (zm7 zjX (qv 2) (zhs zf) zhz))
   (zg (zcg (zk G__law_choose (hr.mono (by decide)) Y._law_choose.mg Y._law_choose.kp Y._law_choose.b .nil zm (za (qv 0) (za (qv 1) zc))))
   (zj (zz (zk G__law_tell (hr.mono (by decide)) Y._law_tell.mg Y._law_tell.kp Y._law_tell.b .nil zm (za (qv 0) (za (qv 1) zc)))))))),?_⟩
  refine⟨_,rfl,t,_,2,_,rfl,rfl, .inl (.inl ht),zI (j:=2) rfl,_,rfl,h,_,rfl,zec hh,kd,rfl, .inl ⟨_, .inl A0.hk⟩,_,rfl,t,_,0,_,rfl,rfl, .inl (.inl ht),at0,few rfl,λe4 he4=>⟨few rfl,λz4 hz4=>?_⟩⟩
  have s04:=(Same.new (o:= .tup ([]:List V)) he4).trans (Same.new (o:= .tup [V.int 0,V.non,V.ref e4]) hz4)
  have ez4:(upd (upd H e4 (.tup ([]:List V))) z4 (.tup [V.int 0,V.non,V.ref e4])) z4=some (.tup [V.int 0,V.non,V.ref e4]):=zb
  generalize (upd (upd H e4 (HO.tup ([]:List V))) z4 (HO.tup [V.int 0,V.non,V.ref e4]))=H4 at *
  have A4:=A0.same s04
  have ht4:=s04 _ _ ht
  refine⟨_,DGet.k (k:=Sum.inr one) A4.hk,?_⟩
  obtain⟨A3,x3,y3,eA,hA⟩:∃A x y,(zal kk (Sum.inr one)).getD (.ref z4)= .ref A/\H4 A=some (.tup [.int (zcF (zu hm one)),x,y]):=by
   rcases A4.tk.look one with⟨e1,e2⟩|⟨r,v',e1,e2,t,x,y,rfl,ht,wa⟩
   ·rw[e1,e2];exact⟨z4,_,_,rfl,ez4⟩
   ·rw[e1,e2];exact⟨t,x,y,rfl,ht⟩
  rw[eA]
  refine⟨A3,_,0,_,rfl,rfl, .inl (.inl hA),at0,_,_,rfl,rfl,_,rfl,?_⟩
  have eh:zd0 hm (one,r)=if r.1<=zcF (zu hm one)then hm else zcC hm one r:=rfl
  by_cases c:r.1<=zcF (zu hm one)
  ·rw[if_pos c] at eh
   rw[eh] at q
   refine zaM (decide_eq_true c) ⟨few rfl,λl hl=>?_⟩
   have S:=Same.new (o:= .lst ([]:List V)) hl
   exact q l [] ov tn b kk kl tm [] _ (zaU s04 hl) zb .nil (A4.same S) eg hkey (λc o _ _ _ e=>S _ _ (s04 _ _ e)) (.inl ⟨c,rfl,rfl,rfl⟩)
  ·rw[if_neg c] at eh
   rw[eh] at q
   refine zac (by rw[decide_eq_false c]) ?_
   refine⟨_,rfl,_,rfl,?_⟩
   dsimp only[zhm]
   refine zgF ht4 λpr H5 hpr s5=>?_
   have ec:zcp [V.str one,V.str nm,V.int r.1,x,y] (some 2) none=[V.int r.1,x,y]:=zic (m:=2)
   rw[ec] at hpr
   have s05:=s04.trans s5
   have A5:=A0.same s05
   refine⟨_,rfl,h,_,rfl,zec A5.hh,_,rfl,t,_,0,_,rfl,rfl, .inl (.inl (s05 _ _ ht)),at0,kd,_,rfl, .inl ⟨kk,Sum.inr one,A5.hk,rfl,zp (by omega),rfl⟩,?_⟩
   have m56:∀c xs,H5 c=some (.tup xs)->upd H5 kd (.dK (zO kk (Sum.inr one) (.ref pr))) c=some (.tup xs):=λc xs e=>by rw[zh (zB e A5.hk (λz=>nomatch z))];exact e
   have k56:Keep kd H5 (upd H5 kd (.dK (zO kk (Sum.inr one) (.ref pr)))):=Keep.upd _ _ _
   have hk6:upd H5 kd (.dK (zO kk (Sum.inr one) (.ref pr))) kd=some (.dK (zO kk (Sum.inr one) (.ref pr))):=zb
   show zlj _ _ _ _ (upd H5 kd (.dK (zO kk (Sum.inr one) (.ref pr))))
   generalize (upd H5 kd (.dK (zO kk (Sum.inr one) (.ref pr))))=H6 at *
   have m06:∀c xs,H c=some (.tup xs)->H6 c=some (.tup xs):=λc xs e=>m56 _ _ (s05 _ _ e)
   have A6:HoAt hs H6 h kd ld nm ov tn b (zO kk (Sum.inr one) (.ref pr)) (zcC hm one r) kl tm:=⟨k56 _ _ A0.n1 A5.hh,hk6,(A0.tk.mono m06).put ⟨pr,x,y,rfl,m56 _ _ hpr,wa.mono m06⟩,A0.ok.put hone hrr,k56 _ _ (Ne.symm A0.n3) A5.hl,A0.tl.mono m06,A0.ol,A0.ow.mono m06,A0.go,A0.n1,A0.n2,A0.n3⟩
   have hkey':∀x r',zu (zcC hm one r) x=some r'->x∈due hs ps nm:=λx r' e=>by
    rw[zgU] at e
    by_cases z:x=one
    ·rw[z];exact hdu
    ·rw[if_neg z] at e;exact hkey x r' e
   refine⟨_,rfl,_,rfl,h,kd,ld,v,nm,ov,tn,b,_,kl,_,tm,g,hs,ps,lks,hds,rfl,A6,zH hv T m06,T,hnm,eg,hkey',λov' tn' b' H7 e1 e2 A7 k7=>?_⟩
   have m67:∀c xs,H6 c=some (.tup xs)->H7 c=some (.tup xs):=λc xs e=>k7 _ _ (zB e A6.hh (λz=>nomatch z)) e
   refine⟨_,rfl,_,rfl,h,kd,ld,v,nm,ov',tn',b',_,kl,_,tm,g,hs,ps,lks,hds,rfl,A7,zH hv T (λc xs e=>m67 _ _ (m06 _ _ e)),T,hf,hnm,λl us kl8 H8 hl hl8 R8 A8 k8=>?_⟩
   have k07:∀c o,c≠h->c≠kd->H c=some o->H7 c=some o:=λc o n1 n2 e=>k7 c o n1 (k56 c o n2 (s05 _ _ e))
   have hl0:H l=none:=by
    cases z:H l with
    |none=>rfl
    |some u=>
     by_cases y1:l=h
     ·rw[y1,A7.hh] at hl;cases hl
     ·by_cases y2:l=kd
      ·rw[y2,A7.hk] at hl;cases hl
      ·rw[k07 l u y1 y2 z] at hl;cases hl
   exact q l us ov' tn' b' _ kl8 _ _ H8 hl0 hl8 R8 A8 e1 hkey' (λc o n1 n2 n3 e=>k8 c o n3 (k07 c o n1 n2 e)) (.inr ⟨c,rfl,rfl,e2⟩)
theorem HsAt.same{C:Addr}{hs:List Str}{H H':Hp}{p dx hd td ga:Addr}{v:V}{nm:Str}{n:Int}{b:Option WM}{kh kt:List (Key×V)}{hm tm:Tb}(a:HsAt C hs H p dx hd td ga v nm n b kh hm kt tm)(s:Same H H'):HsAt C hs H' p dx hd td ga v nm n b kh hm kt tm:=
 ⟨s _ _ a.hp,s _ _ a.hh,a.th.mono λc xs e=>s _ _ e,a.oh,s _ _ a.ht,a.tt.mono λc xs e=>s _ _ e,a.ot,a.gr.mono λc xs e=>s _ _ e,a.go,a.ne⟩
noncomputable def zig(C:Addr):Sp:=λvs H Q _=>∃(v:V) (p dx hd td ga h kd ld:Addr) (nm:Str) (n:Int) (ov:V) (tn:Int) (b:Option WM) (kh kt kk kl:List (Key×V)) (hm tm tm2:Tb) (g:Str) (hs:List Str) (ps:List (Str×Str)) (lks hds:List D),vs=[v, .ref p, .ref h]/\HsAt C hs H p dx hd td ga v nm n b kh hm kt tm/\HoAt hs H h kd ld nm ov tn b kk hm kl tm2/\Rep H v (zaf g hs ps lks hds)/\TownOk g hs ps lks hds/\nm∈hs/\∀H',Same H H'->Q (.bl true) H'
theorem znE{H:Hp}{ov:V}{b:Option WM}(h:OwnAt H ov b):(b=none/\ov= .non)\/∃e g x y,b=some e/\ov= .ref g/\H g=some (.tup [x,y])/\WmAt H x y (some e):=by
 cases b with
 |none=>exact .inl ⟨rfl,h⟩
 |some e=>obtain ⟨g,e1,x,y,e2,wa⟩:=h;exact .inr ⟨e,g,x,y,rfl,e1,e2,wa⟩
theorem zkP(Y:Ev K mg):FnOk P w K mg base CX0 2 Y.a__law_is_so Y.d__law_is_so zbA (zig Y.c_House):=by
 have G_tied:FnOk P w K mg base CX0 1 Y.a_tied Y.d_tied zco zds:=zcZ Y
 have G__law_way:FnOk P w K mg base CX0 1 Y.a__law_way Y.d__law_way zbL (zg0 K):=zia Y
 have G_House_way:FnOk P w K mg base CX0 1 Y.a_House_way Y.d_House_way zbT (ze4 Y.c_House 0):=zlv Y
 have G_House_marks:FnOk P w K mg base CX0 1 Y.a_House_marks Y.d_House_marks za3 (ze4 Y.c_House 1):=zjx Y
 have G_House_heard:FnOk P w K mg base CX0 1 Y.a_House_heard Y.d_House_heard zaH (zes Y.c_House Y.a_NOTHING):=zfQ Y
 refine Y._law_is_so.fn.okQ c__law_is_so (λvs H Q E h=>?_) (λcdv A outer s H vs Q E hr h=>?_)
 ·obtain ⟨v,p,dx,hd,td,ga,h,kd,ld,nm,n,ov,tn,b,kh,kt,kk,kl,hm,tm,tm2,g,hs,ps,lks,hds,rfl,_⟩:=h;rfl
 ·obtain ⟨v,p,dx,hd,td,ga,h,kd,ld,nm,n,ov,tn,b,kh,kt,kk,kl,hm,tm,tm2,g,hs,ps,lks,hds,rfl,A0,B0,hv,T,hnm,q⟩:=h
  obtain⟨x,y,hg,wa⟩:=A0.gr
  have wok:=A0.go.wm
  refine⟨_,(zg (zw 3 c__law_is_so.nd (zaj (hu1 hr) (qc 2) zD))
   (zdp (zab (t_w (zk6 (zA (zej (zeY hr)) (zcX (qc 1) Y.k_House Y.House_way.m G_House_way (hr.mono (by decide)) Y.House_way.b .nil zm) (zk G__law_way (hr.mono (by decide)) Y._law_way.mg Y._law_way.kp Y._law_way.b .nil zm (za (qv 3) zc))) (zgr (zA (zej (zeY hr)) (zcX (qc 1) Y.k_House Y.House_marks.m G_House_marks (hr.mono (by decide)) Y.House_marks.b .nil zm) (znt (zA zdH (qv 3) z9) (zx zc) (zP ix_tup (qv 3) zf)))))) (zj (zz zeZ)) zM)
   (zj (zz (zF (zkA rfl) Y.all zp2 (za (zdR (src:=[none,some 2,some 1]) o__law_is_so_1 rfl rfl (zeE (zk G_tied (hr.mono (by decide)) Y.tied.mg Y.tied.kp Y.tied.b .nil zm (za (qv 0) (za (zaj (hu1 hr) (qc 2) zD) zc)))) (λ_ _ _ _ _=>(zr 0 o__law_is_so_1.nd)) (λ_ _ _ _ _=>zgI) (λ_ _ _ _ _=>(zdq (znh (K:=K) rfl (zeY hr)) (zeI (qc 2) Y.k_House Y.House_heard.m G_House_heard (hr.mono (by decide)) Y.House_heard.b .nil zm (za (qv 0) zc)) (zc5 (hu1 hr) (zaj (hu1 hr) (qc 1) zD) (qv 0) (zx (za zf (za z9 (za (zx zc) zc)))))))) zc)))))),?_⟩
  refine⟨_,rfl,h,_,rfl,zdo B0.hh,?_⟩
  have er:∀{d:PyData} {z:V} {H':Hp},TrC K H' z d->(!d.eqv d)=false:=λ{d z H'} t=>by rw[PySem.SeqAt.eqv_refl _ t.can];rfl
  refine⟨λσ' H'=>σ'=[some v,some (.ref p),some (.ref h),some ov]/\Same H H',?_,?_⟩
  ·refine ⟨_,rfl,p,dx,_,rfl,A0.hp,rfl,p,dx,hd,td,ga,v,nm,n,[x,y],x,rfl,A0.hp,hg,rfl,?_⟩
   refine⟨_,rfl,ov,b,rfl,B0.ow,wok,λu1 tr1=>⟨_,_,zbx wa wok,tr1 H (λ_ _ e=>e),Nat.le_trans (Nat.min_le_left _ _) zdi,_,rfl,?_⟩⟩
   rw[er (zbx wa wok)]
   refine zac rfl ?_
   refine⟨_,rfl,p,dx,_,rfl,A0.hp,rfl,p,dx,hd,td,ga,v,nm,n,[x,y],y,rfl,A0.hp,hg,rfl,?_⟩
   have md:∀{b b':Option WM},min (zb3 b).depth (zb3 b').depth<=60:=λ{b b'}=>Nat.le_trans (Nat.min_le_left _ _) (Nat.le_trans zct (by decide))
   rcases znE B0.ow with⟨eb,eo⟩|⟨e,g',x',y',eb,eo,hg',wa'⟩
   ·subst eb eo
    refine⟨_,rfl,rfl,_,rfl,zaM rfl ⟨few rfl,λe1 he1=>?_⟩⟩
    have S:=Same.new (o:= .tup ([]:List V)) he1
    have t1:TrC K (upd H e1 (.tup ([]:List V))) y (zb3 none):=zb4 (wa.mono λc xs e=>S _ _ e) wok
    have t2:TrC K (upd H e1 (.tup ([]:List V))) (.ref e1) (zb3 none):= .tup (.inl (.inl zb)) rfl λi v d z=>by cases z
    refine⟨_,_,t1,t2,md,_,rfl,?_⟩
    rw[er t1]
    exact zac rfl ⟨rfl,S⟩
   ·subst eb eo
    refine⟨_,rfl,rfl,_,rfl,zac rfl ⟨_,rfl,g',_,1,_,rfl,rfl, .inl (.inl hg'),at1,?_⟩⟩
    have t1:TrC K H y (zb3 (some e)):=zb4 wa wok
    refine⟨_,_,t1,zb4 wa' wok,md,_,rfl,?_⟩
    rw[er t1]
    exact zac rfl ⟨rfl,Same.refl _⟩
  rintro σ' H1 ⟨rfl,s1⟩
  have A1:=A0.same s1
  have B1:=B0.same s1
  refine⟨_,rfl,_,rfl,h,_,rfl,zcx B1.hh,v,nm,g,hs,ps,lks,hds,rfl,hv.same s1,T,λlt ts H2 hlt ht2 tp tsr s2=>?_⟩
  have tl:ts.length<=10:=by rw[tp.length_eq];exact zcM T nm
  refine⟨lt,rfl,⟨_,SqL.of ht2⟩,?_⟩
  refine zcz (zdt (K:=K) (xs:=ts.map V.str)) (λl' i ys σ' H'=>(∃o0,σ'=[o0,some (.ref h),some (.ref p)])/\ys=(List.replicate i true).map V.bl/\Same H2 H') ?_ (λl' i ys σ' H' hl' z=>SqL.of (z.2.2 _ _ ht2)) ?_ ?_
  ·exact λl' hl'=>⟨⟨_,rfl⟩,rfl,Same.new hl'⟩
  ·rintro l' i y0 ys σ' H3 hl' hi hy ⟨⟨o0,rfl⟩,rfl,s3⟩ hl3
   rw[List.length_map] at hi
   rw[List.getElem?_map,List.getElem?_eq_getElem hi] at hy
   cases hy
   have A3:=(A1.same s2).same s3
   have B3:=(B1.same s2).same s3
   refine⟨_,rfl,p,dx,_,rfl,A3.hp,rfl,_,rfl,p,dx,hd,td,ga,v,nm,ts[i],n,kh,rfl,A3.hp,A3.hh,?_⟩
   refine⟨_,rfl,h,_,rfl,zec B3.hh,kd,rfl, .inl ⟨_, .inl B3.hk⟩,_,rfl,few rfl,λe4 he4=>⟨few rfl,λz4 hz4=>?_⟩⟩
   have s34:=(Same.new (o:= .tup ([]:List V)) he4).trans (Same.new (o:= .tup [V.int 0,V.non,V.ref e4]) hz4)
   have ez4:(upd (upd H3 e4 (.tup ([]:List V))) z4 (.tup [V.int 0,V.non,V.ref e4])) z4=some (.tup [V.int 0,V.non,V.ref e4]):=zb
   have ee4:(upd (upd H3 e4 (.tup ([]:List V))) z4 (.tup [V.int 0,V.non,V.ref e4])) e4=some (.tup []):=Same.new hz4 _ _ zb
   generalize (upd (upd H3 e4 (HO.tup ([]:List V))) z4 (HO.tup [V.int 0,V.non,V.ref e4]))=H4 at *
   have A4:=A3.same s34
   have B4:=B3.same s34
   refine⟨_,DGet.k (k:=Sum.inr ts[i]) B4.hk,?_⟩
   have three:∀{t:Addr} {n:Int} {x y:V} {d1 d2:PyData},SqT K H4 t [.int n,x,y]->TrC K H4 x d1->TrC K H4 y d2->TrC K H4 (.ref t) (.tuple [.int n,d1,d2]):=λ{t n x y d1 d2} e h1 h2=> .tup e rfl λi v d e1 e2=>by
    match i with
    |0=>cases e1;cases e2;exact .int _
    |1=>cases e1;cases e2;exact h1
    |2=>cases e1;cases e2;exact h2
    |i+3=>cases e1
   obtain⟨dd,t1,t2,dep⟩:∃dd,TrC K H4 ((zal kh (Sum.inr ts[i])).getD (.ref Y.a_NOTHING)) dd/\TrC K H4 ((zal kk (Sum.inr ts[i])).getD (.ref z4)) dd/\dd.depth<=60:=by
    have e0:∀{z:Addr},SqT K H4 z []->TrC K H4 (.ref z) (.tuple []):=λ{z} e=> .tup e rfl λi v d e1=>by cases e1
    rcases A4.th.look ts[i] with⟨l1,e1⟩|⟨r,v1,l1,e1,t1,x1,y1,rfl,ht1,wa1⟩
    ·rcases B4.tk.look ts[i] with⟨l2,e2⟩|⟨r2,v2,l2,e2,_⟩
     ·rw[e1,e2]
      exact⟨.tuple [.int 0, .none, .tuple []],three (Y.t_NOTHING _) .non (e0 (Y.u_NOTHING _)),three (.inl (.inl ez4)) .non (e0 (.inl (.inl ee4))),by rw[PyData.depth,PyData.depthAll,PyData.depthAll,PyData.depthAll,PyData.depthAll,PyData.depth,PyData.depth,PyData.depth,PyData.depthAll];decide⟩
     ·rw[l1] at l2;cases l2
    ·rcases B4.tk.look ts[i] with⟨l2,e2⟩|⟨r2,v2,l2,e2,t2,x2,y2,rfl,ht2',wa2⟩
     ·rw[l1] at l2;cases l2
     ·rw[l1] at l2
      cases l2
      have rok:zcN r.2:=by
       have:=A0.oh.look l1
       unfold hrR at this
       match hr2:r.2,this with
       |none,_=>exact trivial
       |some (w,ms),h=>exact ⟨h.2.2.1,h.2.2.2.1⟩
      rw[e1,e2]
      refine⟨.tuple [.int r.1,zcl r.2,zb3 r.2],three (.inl (.inl ht1)) (zbx wa1 rok) (zb4 wa1 rok),three (.inl (.inl ht2')) (zbx wa2 rok) (zb4 wa2 rok),?_⟩
      have h1:=zca (b:=r.2)
      have h2:=zct (b:=r.2)
      rw[PyData.depth,PyData.depthAll,PyData.depthAll,PyData.depthAll,PyData.depthAll,PyData.depth]
      omega
   refine⟨dd,dd,t1,t2,Nat.le_trans (Nat.min_le_left _ _) dep,?_⟩
   rw[PySem.SeqAt.eqv_refl _ t1.can]
   refine⟨s34 _ _ hl3,zp (by rw[List.length_map,List.length_replicate];omega),⟨_,rfl⟩,?_,λc o e=>by rw[zh (ze e hl')];exact s34 _ _ (s3 _ _ e)⟩
   rw[List.replicate_succ',List.map_append];rfl
  ·rintro l' ys σ' H3 hl' ⟨⟨o0,rfl⟩,rfl,s3⟩ hl3
   refine⟨l',_,rfl,SqL.of hl3,?_⟩
   rw[show(List.replicate (ts.map V.str).length true).all id=true from List.all_eq_true.mpr λx hx=>List.eq_of_mem_replicate hx]
   exact q H3 ((s1.trans s2).trans s3)
end
section
variable{P:Program}{w:World}{K:PySem.W.Frag}{mg:Str->Option Value}{base:Heap}
theorem ziL{H:Hp}{p:Addr}{xs:List Str}(e:H p=some (.tup (xs.map V.str)))(h:∀y∈xs,zi y=true):TrX K H (.ref p) (.tuple (zt xs)):=by
 refine .tup (.inl (.inl e)) (by unfold zt;rw[List.length_map,List.length_map]) λi v d e1 e2=>?_
 unfold zt at e2
 rw[List.getElem?_map] at e1 e2
 cases e3:xs[i]? with
 |none=>rw[e3] at e1;cases e1
 |some x=>rw[e3] at e1 e2;cases e1;cases e2;exact .str x (zak (h x (List.mem_of_getElem? e3)))
theorem zng{H:Hp}{x y:V}{b:Option WM}(h:WmAt H x y b)(ok:zcN b):TrX K H x (zcl b):=by
 match b,h,ok with
 |none,⟨h1,_⟩,_=>rw[h1];exact .non
 |some (w,ms),⟨pw,pm,h1,h2,h3,h4⟩,ok=>rw[h1];exact ziL h3 ok.1
theorem zoB{H:Hp}{x y:V}{b:Option WM}(h:WmAt H x y b)(ok:zcN b):TrX K H y (zb3 b):=by
 match b,h,ok with
 |none,⟨_,e,h1,h2⟩,_=>rw[h1];exact .tup (.inl (.inl h2)) rfl λi v d e1=>by cases e1
 |some (w,ms),⟨pw,pm,h1,h2,h3,h4⟩,ok=>rw[h2];exact ziL h4 ok.2
theorem zbY{k:Nat}:∀{ds:List PyData},(∀d∈ds,d.depth<=k)->PyData.depthAll ds<=k
 |[],_=>by rw[PyData.depthAll];exact Nat.zero_le _
 |d::ds,h=>by
  rw[PyData.depthAll]
  have h1:=h d List.mem_cons_self
  have h2:=zbY (ds:=ds) λd hd=>h d (List.mem_cons_of_mem _ hd)
  omega
theorem zpR{hs:List Str}{i:Nat}{y:V}(h:(hs.map V.str)[i]?=some y):∃x,hs[i]?=some x/\y= .str x:=by
 rw[List.getElem?_map] at h
 cases e:hs[i]? with
 |none=>rw[e] at h;cases h
 |some x=>rw[e] at h;cases h;exact⟨x,rfl,rfl⟩
theorem zod{α β:Type}{f:α->β}{l:List α}(nd:(l.map f).Nodup){a b:α}(ha:a∈l)(hb:b∈l)(e:f a=f b):a=b:=by
 obtain⟨i,hi,ei⟩:=List.getElem_of_mem ha
 obtain⟨j,hj,ej⟩:=List.getElem_of_mem hb
 have h1:(l.map f)[i]?=some (f a):=by rw[List.getElem?_map,List.getElem?_eq_getElem hi,ei];rfl
 have h2:(l.map f)[j]?=some (f a):=by rw[List.getElem?_map,List.getElem?_eq_getElem hj,ej,e];rfl
 have:=zey nd h1 h2
 subst this
 rw[←ei,←ej]
theorem LtsO.get{H:Hp}{nm:Str}{us:List V}{L:List Lt}(h:LtsO H nm us L):∀{i:Nat} {v:V},us[i]?=some v->∃l,L[i]?=some l/\LtO H v nm l.1 l.2:=by
 induction h with
 |nil=>intro i v e;cases e
 |cons h t ih=>
  intro i v e
  cases i with
  |zero=>cases e;exact⟨_,rfl,h⟩
  |succ i=>exact ih e
noncomputable def znZ(a c:Str)(r:Hr):PyData:= .tuple [.str a, .str c, .int r.1,zcl r.2,zb3 r.2]
noncomputable def zmh(nm:Str)(L:List Lt):PyData:= .list (L.map λp=>znZ nm p.1 p.2)
theorem LtO.trX{H:Hp}{v:V}{a c:Str}{r:Hr}(h:LtO H v a c r)(ha:zi a=true)(hc:zi c=true)(ok:zcN r.2):TrX K H v (znZ a c r):=by
 obtain⟨t,x,y,rfl,ht,wa⟩:=h
 refine .tup (.inl (.inl ht)) rfl λi v d e1 e2=>?_
 match i with
 |0=>cases e1;cases e2;exact .str a (zak ha)
 |1=>cases e1;cases e2;exact .str c (zak hc)
 |2=>cases e1;cases e2;exact .int _
 |3=>cases e1;cases e2;exact zng wa ok
 |4=>cases e1;cases e2;exact zoB wa ok
 |i+5=>cases e1
theorem LtsO.trX{H:Hp}{l:Addr}{nm:Str}{us:List V}{L:List Lt}(h:LtsO H nm us L)(e:H l=some (.lst us))(hn:zi nm=true)(ok:∀p∈L,zi p.1=true/\zcN p.2.2):TrX K H (.ref l) (zmh nm L):=by
 refine .lst e (by rw[List.length_map];exact h.len) λi v d e1 e2=>?_
 obtain⟨p,ep,hp⟩:=h.get e1
 rw[List.getElem?_map,ep] at e2
 cases e2
 obtain⟨o1,o2⟩:=ok p (List.mem_of_getElem? ep)
 exact hp.trX hn o1 o2
theorem zgJ{nm:Str}{L:List Lt}:(zmh nm L).depth<=60:=by
 have h3:PyData.depthAll (L.map λp=>znZ nm p.1 p.2)<=3:=zbY λd hd=>by
  obtain⟨o,_,rfl⟩:=List.mem_map.mp hd
  have h1:=zca (b:=o.2.2)
  have h2:=zct (b:=o.2.2)
  unfold znZ
  rw[PyData.depth,PyData.depthAll,PyData.depthAll,PyData.depthAll,PyData.depthAll,PyData.depthAll,PyData.depthAll,PyData.depth,PyData.depth,PyData.depth]
  omega
 unfold zmh
 rw[PyData.depth]
 omega
theorem zih{rs:List D}{b:Option WM}:∀{os:List Str} {tm:Tb} {p:Lt},p∈zbr rs b tm os->p.1∈os/\p.2.2=zcr rs b p.1
 |[],tm,p,h=>by rw[zbr] at h;cases h
 |o::os,tm,p,h=>by
  rw[zbr] at h
  rcases List.mem_append.mp h with h|h
  ·unfold zdP at h
   split at h
   ·cases h
   ·rw[List.mem_singleton.mp h];exact⟨List.mem_cons_self,rfl⟩
  ·obtain ⟨h1,h2⟩:=zih h;exact⟨List.mem_cons_of_mem _ h1,h2⟩
theorem zl2{g:Str}{hs:List Str}{ps:List (Str×Str)}{lks hds:List D}(T:TownOk g hs ps lks hds)(hf:∀d∈hds,∃ds,d= .tup ds/\ds.length<=12){nm:Str}(hn:nm∈hs){b:Option WM}(ok:GoOk nm b){tm:Tb}:∀p∈zbr (zv hs hds nm) b tm (due hs ps nm),zi p.1=true/\zcN p.2.2:=λp hp=>by
 obtain⟨h1,h2⟩:=zih hp
 rw[h2]
 exact⟨T.names _ (List.mem_filter.mp h1).1,zjF T hf hn ok⟩
theorem HsAt.hold{C:Addr}{hs:List Str}{H H':Hp}{p dx hd td ga:Addr}{v:V}{nm:Str}{n:Int}{b:Option WM}{kh kt:List (Key×V)}{hm tm:Tb}(a:HsAt C hs H p dx hd td ga v nm n b kh hm kt tm)(m:∀c xs,H c=some (.tup xs)->H' c=some (.tup xs))(h1:∀o,H p=some o->H' p=some o)(h2:∀o,H hd=some o->H' hd=some o)(h3:∀o,H td=some o->H' td=some o):HsAt C hs H' p dx hd td ga v nm n b kh hm kt tm:=
 ⟨h1 _ a.hp,h2 _ a.hh,a.th.mono m,a.oh,h3 _ a.ht,a.tt.mono m,a.ot,a.gr.mono m,a.go,a.ne⟩
theorem HoAt.hold{hs:List Str}{H H':Hp}{h kd ld:Addr}{nm:Str}{ov:V}{tn:Int}{b:Option WM}{kk kl:List (Key×V)}{hm tm:Tb}(a:HoAt hs H h kd ld nm ov tn b kk hm kl tm)(m:∀c xs,H c=some (.tup xs)->H' c=some (.tup xs))(h1:∀o,H h=some o->H' h=some o)(h2:∀o,H kd=some o->H' kd=some o)(h3:∀o,H ld=some o->H' ld=some o):HoAt hs H' h kd ld nm ov tn b kk hm kl tm:=
 ⟨h1 _ a.hh,h2 _ a.hk,a.tk.mono m,a.ok,h3 _ a.hl,a.tl.mono m,a.ol,a.ow.mono m,a.go,a.n1,a.n2,a.n3⟩
noncomputable def zkq(K:PySem.W.Frag):Sp:=λvs H Q _=>∃(a:Addr) (ns:List Int),vs=[.ref a]/\SqL K H a (ns.map V.int)/\ns.length<=63/\∀H',Q (.bl true) H'
theorem zkI(Y:Ev K mg){fl:Addr}{fdl:FuncData}(FL:Fun K "law" "law" zdE fl fdl):FnOk P w K mg base CX0 10 fl fdl zjR (zkq K):=by
 have G__law_all:FnOk P w K mg base CX0 2 Y.a__law_all Y.d__law_all zci (zjV K):=zmd Y
 have G__law_town:FnOk P w K mg base CX0 6 Y.a__law_town Y.d__law_town zbS zml:=znA Y
 have G_tied:FnOk P w K mg base CX0 1 Y.a_tied Y.d_tied zco zds:=zcZ Y
 have G__law_letter:FnOk P w K mg base CX0 4 Y.a__law_letter Y.d__law_letter za6 zfu:=ziC Y
 have G_House___init__:FnOk P w K mg base CX0 1 Y.a_House___init__ Y.d_House___init__ zap (zhT Y.c_House):=zlg Y
 have G_House_begin:FnOk P w K mg base CX0 8 Y.a_House_begin Y.d_House_begin za4 (zgt Y.c_House):=zjA Y
 have G_House_hear:FnOk P w K mg base CX0 9 Y.a_House_hear Y.d_House_hear zbs (ziR Y.c_House):=zlo Y
 have G__law_home:FnOk P w K mg base CX0 1 Y.a__law_home Y.d__law_home zbX zh5:=zk3 Y
 have G__law_tell:FnOk P w K mg base CX0 6 Y.a__law_tell Y.d__law_tell zbp zfe:=zgM Y
 have G__law_hear:FnOk P w K mg base CX0 7 Y.a__law_hear Y.d__law_hear zbP ziy:=zkS Y
 have G__law_is_so:FnOk P w K mg base CX0 2 Y.a__law_is_so Y.d__law_is_so zbA (zig Y.c_House):=zkP Y
 refine FL.okQ c_law (λvs H Q E h=>?_) (λcdv A outer s H vs Q E hr h=>?_)
 ·obtain ⟨a,ns,rfl,_⟩:=h;rfl
 ·obtain ⟨sc,ns,rfl,hS,hns,q⟩:=h
  refine⟨_,(zg (zw 1 c_law.nd (zk G__law_all (hr.mono (by decide)) Y._law_all.mg Y._law_all.kp Y._law_all.b .nil zm (za (qv 0) zc)))
   (zg (zw 2 c_law.nd (zk G__law_town (hr.mono (by decide)) Y._law_town.mg Y._law_town.kp Y._law_town.b .nil zm (za (qv 1) zc)))
   (zg (zb1 PassesOwn.never rfl (zdj (zP ix_tup (qv 2) zf)) (zr 3 c_law.nd) (zg (zw 4 c_law.nd (zpd Y.mk_House G_House___init__ (hr.mono (by decide)) Y.m_House Y.House___init__.b .nil zm (za (qv 2) (za (qv 3) zc))))
   (zg (zw 5 c_law.nd (zk G__law_home (hr.mono (by decide)) Y._law_home.mg Y._law_home.kp Y._law_home.b .nil zm (za (qv 3) zc)))
   (zdp (zab (zA zaO (qv 3) (zP ix_tup (qv 2) zf)) (zj (zcm (hu1 hr) (qv 5) zD (zx (za (zx (za (qv 3) zc)) (za (zx zc) zc))))) zM)
   (zg (zab (zA (zmu (zeY hr)) (zcX (qv 4) Y.k_House Y.House_begin.m G_House_begin (hr.mono (by decide)) Y.House_begin.b .nil zm) (zk G__law_tell (hr.mono (by decide)) Y._law_tell.mg Y._law_tell.kp Y._law_tell.b .nil zm (za (qv 2) (za (qv 5) zc)))) (zj (zz zeZ)) zM)
   (zg (zw 6 c_law.nd zeD)
   (zj (zb1 PassesOwn.never rfl (zdc Y.range (za (zE za8 (zah zcR Y.int zfK (za (zdq (zpf (zeY hr)) (zk G_tied (hr.mono (by decide)) Y.tied.mg Y.tied.kp Y.tied.b .nil zm (za (qv 2) (za (qv 3) zc))) (zcq zc)) zc)) (zE zY zf (zF (zet rfl) Y.min zen (za zf (za (zF zam Y.len zch (za (qv 0) zc)) zc))))) zc)) (zr 7 c_law.nd) (zg (zw 8 c_law.nd (zk G__law_letter (hr.mono (by decide)) Y._law_letter.mg Y._law_letter.kp Y._law_letter.b .nil zm (za (qv 1) (za (qv 2) (za (qv 3) (za (qv 6) zc))))))
   (zg (zw 9 c_law.nd (zeI (qv 4) Y.k_House Y.House_hear.m G_House_hear (hr.mono (by decide)) Y.House_hear.b .nil zm (za (qv 8) zc)))
   (zg (zab (t_w (zk6 (ziH (ziQ (zF zlP Y.isinstance zge (za (qv 9) (za (zqT Y.list znU) zc))))) (zgr (zA (zmu (zeY hr)) (qv 9) (zk G__law_hear (hr.mono (by decide)) Y._law_hear.mg Y._law_hear.kp Y._law_hear.b .nil zm (za (qv 2) (za (qv 5) (za (qv 8) zc)))))))) (zj (zz zeZ)) zM)
   (zg (zcg (zga PySem.F.plainAttrs_list PySem.F.slot_list_append PySem.F.type_list_append zaZ (qv 9) (za z9 zc)))
   (zj (zab (ziH (ziQ (zk G__law_is_so (hr.mono (by decide)) Y._law_is_so.mg Y._law_is_so.kp Y._law_is_so.b .nil zm (za (qv 2) (za (qv 4) (za (qv 5) zc)))))) (zj (zz zeZ)) zM))))))))))))))
   (zj (zz zeZ))))),?_⟩
  refine⟨_,rfl,sc,ns,rfl,hS,hns,λa H1 ha hH1 s1=>?_⟩
  refine⟨_,rfl,a,0,rfl,hH1,by decide,λv g hs ps lks hds H2 hv T _ _ _ hf hH2 k2=>?_⟩
  obtain⟨pt,us0,rfl,hpt,h0⟩:=zcH hv
  obtain⟨ph,e1,hph⟩:∃ph,us0[1]?=some (.ref ph)/\H2 ph=some (.tup (hs.map V.str)):=by
   obtain⟨pt',us',e,hp',rr,_⟩:=hv.ofT
   cases e
   rw[hpt] at hp';cases hp'
   have hl:1<us0.length:=by rw[rr.1];exact(by decide:1<5)
   obtain⟨ph,e,hph⟩:=ziU (rr.2 1 us0[1] (.tup (hs.map D.str)) (List.getElem?_eq_getElem hl) rfl)
   exact⟨ph,by rw[List.getElem?_eq_getElem hl,e],hph⟩
  have T10:=T.ten
  have npa:∀{c o},H2 c=some (.tup o)->c≠a:=λ{c o} e z=>by obtain⟨_,_,_,e',_⟩:=hH2;rw[z,e'] at e;cases e
  refine⟨_,rfl,pt,us0,1,_,rfl,rfl, .inl (.inl hpt),zI (j:=1) e1,ph,rfl,⟨_, .inl (.inl hph)⟩,?_⟩
  have hS2:∀{H'},Keep a H2 H'->SqL K H' sc (ns.map V.int):=λ{H'} k=>Same.seq (λc o e=>k c o (ze e ha) (k2 c o (ze e ha) (s1 c o e))) hS
  refine zaP (zcj (K:=K) (xs:=hs.map V.str)) (λi σ' H'=>(∃o3 o4 o5 o6 o7 o8 o9,σ'=[some (.ref sc),some (.ref a),some (.ref pt),o3,o4,o5,o6,o7,o8,o9])/\Hand H' a (9000+1400*i)/\Keep a H2 H') ⟨⟨_,_,_,_,_,_,_,rfl⟩,hH2.mono (by omega),Keep.refl _ _⟩ ?_ ?_ ?_
  ·rintro i σ' H' ⟨_,_,k'⟩
   exact .inl (.inl (k' _ _ (npa hph) hph))
  ·rintro i y σ' H3 hi hy ⟨⟨o3,o4,o5,o6,o7,o8,o9,rfl⟩,hH3,k3⟩
   obtain⟨nm,hnm,rfl⟩:=zpR hy
   have hnm:=List.mem_of_getElem? hnm
   have hnn:=T.names nm hnm
   rw[List.length_map] at hi
   have m23:∀c xs,H2 c=some (.tup xs)->H3 c=some (.tup xs):=λc xs e=>k3 _ _ (npa e) e
   have hv3:=zH hv T m23
   have hpt3:=m23 _ _ hpt
   refine⟨_,rfl,_,rfl,λp dx np ndx nex=>⟨p,dx, .ref pt,nm,rfl,zb,λhd td ga e H4 f1 f2 f3 f4 nht hp4 hh4 ht4 hg4 he4 k4=>⟨rfl,?_⟩⟩⟩
   have ndp:∀{c o},H3 c=some o->c≠p:=λ{c o} e=>ze e np
   have s34:Same H3 H4:=λc o e=>k4 c o (ndp e) (by rw[zh (ndp e),zh (ze e ndx)];exact e)
   have A4:HsAt Y.c_House hs H4 p dx hd td ga (.ref pt) nm 0 none [] [] [] []:=⟨hp4,hh4, .nil, .nil,ht4, .nil, .nil,⟨.non, .ref e,hg4,rfl,e,rfl,he4⟩,trivial,nht⟩
   have u34:Same H3 (upd (upd H3 dx (.own p)) p (.ins Y.c_House dx [])):=λc o e=>by rw[zh (ndp e),zh (ze e ndx)];exact e
   have hd0:H3 hd=none:=u34.free f1
   have td0:H3 td=none:=u34.free f2
   clear f1 f2 f3 f4 k4 u34
   refine⟨_,rfl,nm,rfl,λh kd ld H5 fh fk fl n1 n2 n3 hh5 hk5 hl5 s45=>?_⟩
   have s35:=s34.trans s45
   have h30:H3 h=none:=s34.free fh
   have k30:H3 kd=none:=s34.free fk
   have l30:H3 ld=none:=s34.free fl
   have dh:p≠h/\hd≠h/\td≠h:=⟨ze A4.hp fh,ze A4.hh fh,ze A4.ht fh⟩
   have dk:p≠kd/\hd≠kd/\td≠kd:=⟨ze A4.hp fk,ze A4.hh fk,ze A4.ht fk⟩
   have dl:p≠ld/\hd≠ld/\td≠ld:=⟨ze A4.hp fl,ze A4.hh fl,ze A4.ht fl⟩
   have A5:=A4.same s45
   have B5:HoAt hs H5 h kd ld nm .non 0 none [] [] [] []:=⟨hh5,hk5, .nil, .nil,hl5, .nil, .nil,rfl,trivial,n1,n2,n3⟩
   have np3:∀{c o},H3 c=some o->c≠p/\c≠hd/\c≠td/\c≠h/\c≠kd/\c≠ld:=λ{c o} e=>⟨ze e np,ze e hd0,ze e td0,ze e h30,ze e k30,ze e l30⟩
   clear hp4 hh4 ht4 hg4 he4 hh5 hk5 hl5 fh fk fl
   refine⟨λσ' H'=>σ'=[some (.ref sc),some (.ref a),some (.ref pt),some (.str nm),some (.ref p),some (.ref h),o6,o7,o8,o9]/\∃ov b,HoAt hs H' h kd ld nm ov 0 b [] [] [] []/\(nm=g->b=some ([nm],[]))/\(nm≠g->b=none)/\Keep h H5 H',?_,?_⟩
   ·refine ⟨_,rfl,_,rfl,pt,us0,0,_,rfl,rfl, .inl (.inl (s35 _ _ hpt3)),zI (j:=0) h0,rfl,_,rfl,?_⟩
    rw[zbD]
    by_cases eg:nm=g
    ·rw[decide_eq_true eg]
     refine zaM rfl ⟨_,rfl,few rfl,λq1 hq1=>⟨few rfl,λq2 hq2=>⟨few rfl,λq3 hq3=>?_⟩⟩⟩
     have S1:=Same.new (o:= .tup [V.str nm]) hq1
     have S2:=Same.new (o:= .tup ([]:List V)) hq2
     have S3:=Same.new (o:= .tup [V.ref q1,V.ref q2]) hq3
     have z1:=S3 _ _ (S2 _ _ (zb (H:=H5) (a:=q1) (o:= .tup [V.str nm])))
     have z2:=S3 _ _ (zb (H:=upd H5 q1 (.tup [V.str nm])) (a:=q2) (o:= .tup ([]:List V)))
     have z3:=zb (H:=upd (upd H5 q1 (.tup [V.str nm])) q2 (.tup ([]:List V))) (a:=q3) (o:= .tup [V.ref q1,V.ref q2])
     have s56:=(S1.trans S2).trans S3
     generalize (upd (upd (upd H5 q1 (HO.tup [V.str nm])) q2 (HO.tup ([]:List V))) q3 (HO.tup [V.ref q1,V.ref q2]))=H6 at *
     have B6:=B5.same s56
     have m6:∀c xs,H6 c=some (.tup xs)->upd H6 h (.dK (zaN nm kd ld (.ref q3) 0)) c=some (.tup xs):=λc xs e=>by rw[zh (zB e B6.hh (λz=>nomatch z))];exact e
     refine⟨_,rfl,h,_,rfl, .inl ⟨_,Sum.inr "own",B6.hh,rfl,zp (by decide:5<=1000),rfl⟩,rfl,?_⟩
     rw[zhw]
     refine⟨.ref q3,some ([nm],[]),⟨zb,by rw[zh (Ne.symm n1)];exact B6.hk, .nil, .nil,by rw[zh (Ne.symm n2)];exact B6.hl, .nil, .nil,⟨q3,rfl,GoR.mono ⟨.ref q1, .ref q2,z3,q1,q2,rfl,rfl,z1,z2⟩ m6⟩,⟨⟨[],rfl,by decide⟩,λy hy=>by rw[List.mem_singleton.mp hy];exact hnn,λy hy=>(nomatch hy),by decide⟩,n1,n2,n3⟩,λ_=>rfl,λz=>absurd eg z,(Keep.of s56).trans (Keep.upd _ _ _)⟩
    ·rw[decide_eq_false eg]
     exact zac rfl ⟨rfl, .non,none,B5,λz=>absurd z eg,λ_=>rfl,Keep.refl _ _⟩
   rintro σ' H6 ⟨rfl,ov,b,B6,eg,ng,k56⟩
   have m56:∀c xs,H5 c=some (.tup xs)->H6 c=some (.tup xs):=λc xs e=>k56 _ _ (zB e B5.hh (λz=>nomatch z)) e
   have A6:=A5.hold m56 (λo e=>k56 _ _ dh.1 e) (λo e=>k56 _ _ dh.2.1 e) (λo e=>k56 _ _ dh.2.2 e)
   have k36:∀c o,H3 c=some o->H6 c=some o:=λc o e=>k56 _ _ (np3 e).2.2.2.1 (s35 _ _ e)
   refine⟨_,rfl,p,dx,_,rfl,A6.hp,rfl,p,dx,hd,td,ga, .ref pt,nm,0,g,hs,ps,lks,hds,rfl,A6,hv3.same k36,T,hf,hnm,λlb ga7 us7 n7 b7 kt7 tm7 L7 H7 hlb hlb7 R7 A7 I7 k7 ll7 eL7 et7=>?_⟩
   have eb:b7=b:=by
    by_cases c:nm=g
    ·rw[I7.goal c,eg c]
    ·rw[ng c]
     exact zgp (λ_=>Iff.rfl) (λe he=>by cases(show e∈([]:List WM)from he)) (I7.best c) (rfl:zbt (zv hs lks nm) (zbW nm (zv hs lks nm) []) none)
   subst eb
   have m67:∀c xs,H6 c=some (.tup xs)->H7 c=some (.tup xs):=λc xs e=>k7 _ _ (zB e A6.hp (λz=>nomatch z)) (zB e A6.hh (λz=>nomatch z)) (zB e A6.ht (λz=>nomatch z)) e
   have B7:=B6.hold m67 (λo e=>k7 _ _ (Ne.symm dh.1) (Ne.symm dh.2.1) (Ne.symm dh.2.2) e) (λo e=>k7 _ _ (Ne.symm dk.1) (Ne.symm dk.2.1) (Ne.symm dk.2.2) e) (λo e=>k7 _ _ (Ne.symm dl.1) (Ne.symm dl.2.1) (Ne.symm dl.2.2) e)
   have k37:∀c o,H3 c=some o->H7 c=some o:=λc o e=>k7 _ _ (np3 e).1 (np3 e).2.1 (np3 e).2.2.1 (k36 _ _ e)
   refine⟨_,rfl,_,rfl,h,kd,ld, .ref pt,nm,ov,0,b7,[],[],[],[],g,hs,ps,lks,hds,rfl,B7,hv3.same k37,T,hf,hnm,λl8 us8 kl8 H8 hl8 hl8' R8 B8 k8=>?_⟩
   have m78:∀c xs,H7 c=some (.tup xs)->H8 c=some (.tup xs):=λc xs e=>k8 _ _ (zB e B7.hl (λz=>nomatch z)) e
   have A8:=A7.hold m78 (λo e=>k8 _ _ dl.1 e) (λo e=>k8 _ _ dl.2.1 e) (λo e=>k8 _ _ dl.2.2 e)
   have k38:∀c o,H3 c=some o->H8 c=some o:=λc o e=>k8 _ _ (np3 e).2.2.2.2.2 (k37 _ _ e)
   have hlb8:=k8 _ _ (zB hlb7 B7.hl (λz=>nomatch z)) hlb7
   have R78:=R7.mono m78
   have nok:=zl2 (ps:=ps) T hf hnm A7.go (tm:=[])
   rw[eL7] at R78
   have t8:TrX K H8 (.ref l8) _:=R8.trX hl8' hnn nok
   refine⟨_,_,R78.trX hlb8 hnn nok,t8,Nat.le_trans (Nat.min_le_left _ _) zgJ,_,rfl,zac (by rw[PySem.SeqAt.eqv_refl _ t8.can];rfl) ?_⟩
   rw[←et7] at B8
   refine λd hd8=>?_
   have S9:=Same.new (o:= .dK []) hd8
   have hH8:Hand H8 a (9000+1400*i):=by
    obtain⟨x,m,t,e,r⟩:=hH3
    exact⟨x,m,t,k38 _ _ e,r⟩
   have nda:d≠a:=hH8.ne hd8
   have d30:H3 d=none:=zaU k38 hd8
   have dd:p≠d/\hd≠d/\td≠d/\h≠d/\kd≠d/\ld≠d:=⟨ze A8.hp hd8,ze A8.hh hd8,ze A8.ht hd8,ze B8.hh hd8,ze B8.hk hd8,ze B8.hl hd8⟩
   have na:p≠a/\hd≠a/\td≠a/\h≠a/\kd≠a/\ld≠a:=⟨hH3.ne np,hH3.ne hd0,hH3.ne td0,hH3.ne h30,hH3.ne k30,hH3.ne l30⟩
   have hd9:(upd H8 d (.dK [])) d=some (.dK []):=zb
   have A9:=A8.same S9
   have B9:=B8.same S9
   have hH9:=hH8.same S9
   have k39:Same H3 (upd H8 d (.dK [])):=λc o e=>S9 _ _ (k38 _ _ e)
   clear hd8 hlb8 R78 t8 hl8' R8 S9 hlb hlb7 R7 hl8
   generalize (upd H8 d (HO.dK []))=H9 at *
   refine⟨_,rfl,_,rfl, .ref pt,nm,g,hs,ps,lks,hds,rfl,hv3.same k39,T,λlt ts H10 hlt ht10 tp tsr s10=>?_⟩
   have ets:=zfF T tp tsr
   have tin:∀o∈ts,o∈hs:=λo ho=>zc3 T (tp.mem_iff.mp ho)
   refine⟨few rfl,λpe hpe=>?_⟩
   have se:=Same.new (o:= .lst []) hpe
   refine⟨_,_,zkf (se _ _ ht10) (λx hx=>zak (T.names x (tin x hx))),zmC zb,Nat.le_trans (Nat.min_le_right _ _) (by decide),?_⟩
   have s9:=s10.trans se
   generalize (upd H10 pe (HO.lst []))=H11 at *
   have s311:Same H3 H11:=λc o e=>s9 _ _ (k39 _ _ e)
   have k211:Keep a H2 H11:=k3.trans (Keep.of s311)
   refine .inr ⟨_,rfl,?_⟩
   refine⟨_,rfl, .inl ⟨sc,_,rfl, .inl (hS2 k211),_,_,rfl,_,_,rfl,rfl,_,_,rfl,rfl, .inl ⟨by split<;>omega,by split<;>omega⟩,?_⟩⟩
   obtain⟨N,eN,N14,N0⟩:∃N:Nat,((if(!(PyData.list (zt ts)).eqv (.list []))=true then(1:Int)else 0)*(3+if (((ns.map V.int).length:Int)<30)then((ns.map V.int).length:Int)else 30))=(N:Int)/\N<=33/\(0<N->ts≠ []):=by
    cases ts with
    |nil=>exact ⟨0,by rw[show(PyData.list (zt [])).eqv (.list [])=true from rfl];simp,by decide,λz=>absurd z (by decide)⟩
    |cons t0 tr=>
     rw[show(PyData.list (zt (t0::tr))).eqv (.list [])=false by unfold zt;rw[List.map_cons,PyData.eqv];rfl]
     by_cases c:(((ns.map V.int).length:Int)<30)
     ·rw[if_pos c]
      exact⟨3+(ns.map V.int).length,by simp,by omega,λ_ z=>nomatch z⟩
     ·rw[if_neg c]
      exact⟨33,by simp,by decide,λ_ z=>nomatch z⟩
   refine⟨(N:Int),congrArg (λz:Int=> [V.int z]) eN,by omega,by omega,?_⟩
   rw[show((N:Int)).toNat=N from Int.toNat_natCast N]
   refine zaP zcD (λk σ' H'=>(∃kvs ga n b kh hm kt tm ov tn kk kl L0 o7 o8 o9,σ'=[some (.ref sc),some (.ref a),some (.ref pt),some (.str nm),some (.ref p),some (.ref h),some (.ref d),o7,o8,o9]/\H' d=some (.dK kvs)/\kvs.length<=k/\(∀x u,zal kvs (Sum.inr x)=some u->∃i,u= .int i)/\HsAt Y.c_House hs H' p dx hd td ga (.ref pt) nm n b kh hm kt tm/\HInv g nm (zv hs lks nm) (zv hs hds nm) (due hs ps nm) b hm tm L0/\HoAt hs H' h kd ld nm ov tn b kk hm kl tm/\(∀x r,zu hm x=some r->x∈due hs ps nm))/\Hand H' a (9000+1400*i+40*k)/\Keep a H3 H') ?_ (λ_ _ _ _=>trivial) ?_ ?_
   ·exact ⟨⟨[],ga7,n7,b7,[],[],kt7,tm7,ov,0,[],kl8,L7,_,_,_,rfl,s9 _ _ hd9,Nat.le_refl _,(λx u z=>by cases z),A9.same s9,I7,B9.same s9,(λx r z=>by cases z)⟩,(hH9.same s9).mono (by omega),Keep.of s311⟩
   ·rintro k y σ' H12 hk rfl ⟨⟨kvs,ga,n,b,kh,hm,kt,tm,ov,tn,kk,kl,L0,o7,o8,o9,rfl,hd12,kl12,ki,A12,I12,B12,hkey⟩,hH12,k12⟩
    have npa3:∀{c o},H3 c=some (.tup o)->c≠a:=λ{c o} e z=>by obtain⟨_,_,_,e',_⟩:=hH3;rw[z,e'] at e;cases e
    have hv12:=zH hv3 T λc xs e=>k12 _ _ (npa3 e) e
    have hdue:due hs ps nm≠ []:=by rw[←ets];exact N0 (by omega)
    refine⟨_,rfl,_,rfl,_,rfl,_,rfl,a,d,_, .ref pt,nm,kvs,g,hs,ps,lks,hds,rfl,hH12,by omega,nda,hd12,by omega,ki,hv12,T,hf,hnm,hdue,λlv one r kvs13 H13 hlo hone hdu hrr hpos hd13 kl13 ki13 hH13 k13=>?_⟩
    have m1213:∀c xs,H12 c=some (.tup xs)->H13 c=some (.tup xs):=λc xs e=>k13 _ _ (λz=>by obtain⟨_,_,_,e',_⟩:=hH12;rw[z,e'] at e;cases e) (zB e hd12 (λz=>nomatch z)) e
    have A13:=A12.hold m1213 (λo e=>k13 _ _ na.1 dd.1 e) (λo e=>k13 _ _ na.2.1 dd.2.1 e) (λo e=>k13 _ _ na.2.2.1 dd.2.2.1 e)
    have B13:=B12.hold m1213 (λo e=>k13 _ _ na.2.2.2.1 dd.2.2.2.1 e) (λo e=>k13 _ _ na.2.2.2.2.1 dd.2.2.2.2.1 e) (λo e=>k13 _ _ na.2.2.2.2.2 dd.2.2.2.2.2 e)
    have k313:Keep a H3 H13:=λc o nc e=>k13 c o nc (ze e d30) (k12 c o nc e)
    have hv13:=zH hv12 T m1213
    refine⟨_,rfl,p,dx,_,rfl,A13.hp,rfl,_,rfl,p,dx,hd,td,ga, .ref pt,lv,nm,one,r,n,b,kh,kt,hm,tm,L0,g,hs,ps,lks,hds,rfl,hlo,hone,hrr,A13,I12,hv13,T,hf,hnm,λl14 ga14 us14 n14 b14 kh14 kt14 tm14 L14 H14 hl14 hl14' R14 A14 I14 k14 ll14 or14=>?_⟩
    have m1314:∀c xs,H13 c=some (.tup xs)->H14 c=some (.tup xs):=λc xs e=>k14 _ _ (zB e A13.hp (λz=>nomatch z)) (zB e A13.hh (λz=>nomatch z)) (zB e A13.ht (λz=>nomatch z)) e
    have B14:=B13.hold m1314 (λo e=>k14 _ _ (Ne.symm dh.1) (Ne.symm dh.2.1) (Ne.symm dh.2.2) e) (λo e=>k14 _ _ (Ne.symm dk.1) (Ne.symm dk.2.1) (Ne.symm dk.2.2) e) (λo e=>k14 _ _ (Ne.symm dl.1) (Ne.symm dl.2.1) (Ne.symm dl.2.2) e)
    have hd14:=k14 _ _ (Ne.symm dd.1) (Ne.symm dd.2.1) (Ne.symm dd.2.2.1) hd13
    have hH14:Hand H14 a (9000+1400*i+40*k+40):=by
     obtain⟨x,m,t,e,r⟩:=hH13
     exact⟨x,m,t,k14 _ _ (Ne.symm na.1) (Ne.symm na.2.1) (Ne.symm na.2.2.1) e,r⟩
    have k314:Keep a H3 H14:=λc o nc e=>k14 c o (np3 e).1 (np3 e).2.1 (np3 e).2.2.1 (k313 c o nc e)
    have hv14:=zH hv13 T m1314
    refine⟨_,rfl, .ref l14,"list",_,true,rfl, .lst hl14',rfl,_,rfl,zac rfl ?_⟩
    refine⟨_,rfl,_,rfl,_,rfl,_,rfl,h,kd,ld, .ref pt,lv,nm,one,r,ov,tn,b,kk,kl,hm,tm,g,hs,ps,lks,hds,rfl,hlo.mono m1314,hone,hdu,hrr,B14,hv14,T,hf,hnm,I12.goal,hkey,λl15 us15 ov15 tn15 b15 kk15 kl15 tm15 L15 H15 hl15 hl15' R15 B15 eg15 hkey15 k15 or15=>?_⟩
    obtain⟨eL,et,eb⟩:L15=L14/\tm15=tm14/\b15=b14:=by
     rcases or14 with⟨c,e1,e2,e3⟩|⟨c,e1,e2⟩
     ·rcases or15 with⟨_,e4,e5,e6⟩|⟨c',_⟩
      ·exact ⟨e4.trans e1.symm,e5.trans e2.symm,e6.trans e3.symm⟩
      ·exact absurd c c'
     ·rcases or15 with⟨c',_⟩|⟨_,e4,e5,be⟩
      ·exact absurd c' c
      ·have eb:b15=b14:=by
        by_cases cg:nm=g
        ·rw[eg15 cg,I14.goal cg]
        ·exact zgp (λ_=>Iff.rfl) (λe he e' he' z=>zod (zfL A14.oh.nd λp hp=>(A14.oh.mem p hp).2) he he' z) (be cg) (I14.best cg)
       subst eb
       exact⟨e4.trans e1.symm,e5.trans e2.symm,rfl⟩
    subst eL et eb
    have lok:∀p∈L15,zi p.1=true/\zcN p.2.2:=by
     rcases or14 with⟨c,e1,_⟩|⟨c,e1,_⟩
     ·rw[e1];exact λ_ z=>nomatch z
     ·rw[e1];exact zl2 (ps:=ps) T hf hnm A14.go
    have m1415:∀c xs,H14 c=some (.tup xs)->H15 c=some (.tup xs):=λc xs e=>k15 _ _ (zB e B14.hh (λz=>nomatch z)) (zB e B14.hk (λz=>nomatch z)) (zB e B14.hl (λz=>nomatch z)) e
    have hl145:=k15 _ _ (zB hl14' B14.hh (λz=>nomatch z)) (zB hl14' B14.hk (λz=>nomatch z)) (zB hl14' B14.hl (λz=>nomatch z)) hl14'
    have t15:TrX K H15 (.ref l15) _:=R15.trX hl15' hnn lok
    refine⟨_,_,(R14.mono m1415).trX hl145 hnn lok,t15,Nat.le_trans (Nat.min_le_left _ _) zgJ,_,rfl,zac (by rw[PySem.SeqAt.eqv_refl _ t15.can];rfl) ?_⟩
    have A15:=A14.hold m1415 (λo e=>k15 _ _ dh.1 dk.1 dl.1 e) (λo e=>k15 _ _ dh.2.1 dk.2.1 dl.2.1 e) (λo e=>k15 _ _ dh.2.2 dk.2.2 dl.2.2 e)
    have hd15:=k15 _ _ (Ne.symm dd.2.2.2.1) (Ne.symm dd.2.2.2.2.1) (Ne.symm dd.2.2.2.2.2) hd14
    have hH15:Hand H15 a (9000+1400*i+40*k+40):=by
     obtain⟨x,m,t,e,r⟩:=hH14
     exact⟨x,m,t,k15 _ _ (Ne.symm na.2.2.2.1) (Ne.symm na.2.2.2.2.1) (Ne.symm na.2.2.2.2.2) e,r⟩
    have k315:Keep a H3 H15:=λc o nc e=>k15 c o (np3 e).2.2.2.1 (np3 e).2.2.2.2.1 (np3 e).2.2.2.2.2 (k314 c o nc e)
    have l14l:=R14.len
    have l130:H3 l14=none:=by
     cases z:H3 l14 with
     |none=>rfl
     |some u=>
      by_cases y1:l14=a
      ·rw[y1] at hl14;exact absurd rfl (hH13.ne hl14)
      ·rw[k313 l14 u y1 z] at hl14;cases hl14
    have nl14:l14≠a:=hH13.ne hl14
    refine⟨_,rfl, .inl ⟨rfl,_,SqL.of hl145⟩,l14,us14,_,rfl,rfl,hl145,zp (by omega),?_⟩
    have nl:∀{c o},H15 c=some o->(∀xs,o≠ .lst xs)->upd H15 l14 (.lst (us14 ++ [.non])) c=some o:=λ{c o} z n=>by rw[zh (zB z hl145 (n _))];exact z
    have m1516:∀c xs,H15 c=some (.tup xs)->upd H15 l14 (.lst (us14 ++ [.non])) c=some (.tup xs):=λc xs e=>nl e (λ_ z=>nomatch z)
    have A16:HsAt Y.c_House hs (upd H15 l14 (.lst (us14 ++ [.non]))) p dx hd td ga14 (.ref pt) nm n14 b15 kh14 (zd0 hm (one,r)) kt14 tm15:=⟨nl A15.hp (λ_ z=>nomatch z),nl A15.hh (λ_ z=>nomatch z),A15.th.mono m1516,A15.oh,nl A15.ht (λ_ z=>nomatch z),A15.tt.mono m1516,A15.ot,A15.gr.mono m1516,A15.go,A15.ne⟩
    have B16:HoAt hs (upd H15 l14 (.lst (us14 ++ [.non]))) h kd ld nm ov15 tn15 b15 kk15 (zd0 hm (one,r)) kl15 tm15:=⟨nl B15.hh (λ_ z=>nomatch z),nl B15.hk (λ_ z=>nomatch z),B15.tk.mono m1516,B15.ok,nl B15.hl (λ_ z=>nomatch z),B15.tl.mono m1516,B15.ol,B15.ow.mono m1516,B15.go,B15.n1,B15.n2,B15.n3⟩
    have hd16:=nl hd15 (λ_ z=>nomatch z)
    have hH16:=hH15.updNe (o:= .lst (us14 ++ [.non])) nl14
    have k316:Keep a H3 (upd H15 l14 (.lst (us14 ++ [.non]))):=λc o nc e=>by rw[zh (ze e l130)];exact k315 c o nc e
    have hv16:=zH (zH hv14 T m1415) T m1516
    generalize (upd H15 l14 (HO.lst (us14 ++ [V.non])))=H16 at *
    refine⟨_,rfl,_,rfl,_,rfl, .ref pt,p,dx,hd,td,ga14,h,kd,ld,nm,n14,ov15,tn15,b15,kh14,kt14,kk15,kl15,_,tm15,tm15,g,hs,ps,lks,hds,rfl,A16,B16,hv16,T,hnm,λH17 s17=>⟨_,rfl,zac rfl ?_⟩⟩
    exact⟨⟨kvs13,ga14,n14,b15,kh14,_,kt14,tm15,ov15,tn15,kk15,kl15,_,_,_,_,rfl,s17 _ _ hd16,by omega,ki13,A16.same s17,I14,B16.same s17,hkey15⟩,(hH16.same s17).mono (by push_cast;omega),k316.trans (Keep.of s17)⟩
   ·rintro σ' H12 ⟨⟨kvs,ga,n,b,kh,hm,kt,tm,ov,tn,kk,kl,L0,o7,o8,o9,rfl,hd12,kl12,ki,A12,I12,B12,hkey⟩,hH12,k12⟩
    exact⟨⟨_,_,_,_,_,_,_,rfl⟩,hH12.mono (by push_cast;omega),λc o nc e=>k12 c o nc (k3 c o nc e)⟩
  ·rintro σ' H3 ⟨⟨o3,o4,o5,o6,o7,o8,o9,rfl⟩,hH3,k3⟩
   exact q H3
end
theorem walk{l:PySem.W.OpenLaw}{q:Program}{loose:List Str}{XP:(Str->Option Value)->Heap->Prop}{YP:World->Heap->Prop}{d:DefRec}{K:Params->PySem.W.Frag}(hn:l.most=some 63)(hdf:d.params.defaults=[])
 (hY:∀(w:World) (h:Heap),YP w h->(K w.params).In h)
 (F:∀(w:World) (mg:Str->Option Value) (fa:Addr) (h:Heap),(K w.params).In h->h.Ns mainGlobals mg->mg d.name=some (.ref fa)->
   ∃fd:FuncData,(∀(s:Shared) (u:Value),BindsTo s fd ⟨[u],[]⟩ [("_law_script",u)])/\∀base:Heap,(K w.params).In base->base.Ns mainGlobals mg->FnOk l.prog w (K w.params) mg base CX0 10 fa fd ["_law_script"] (zkq (K w.params))):
 PySem.W.WalkO q loose XP YP l.row.toRowW d [] (λf vs=>PySem.call f vs):=
 L2.walk_of (n:=63) (k:=10) (x:="_law_script") (CX:=λ_=>CX0) (sp:=λw=>zkq (K w.params)) hn (by decide) hdf ⟨rfl,by decide,by decide,rfl⟩ hY F (λ_ _ a ns hl _ hS=>⟨a,ns,rfl,hS,hl,λ_=>rfl⟩) λ_ _ _ _ _ z=>z
theorem all_mk{l:PySem.W.OpenLaw}{w:World}{K:PySem.W.Frag}{h:Heap}{mg:Str->Option Value}{fa:Addr}(X:K.In h)(G:h.Ns mainGlobals mg)(hfa:mg "law"=some (.ref fa))
 {C_House:Addr} (aC_House:PySem.W.nsIn K mainGlobals "House"=some (some (.ref C_House))) (pg_House:PySem.W.plainGet K C_House Str.empty=true) (hd_House:PySem.W.hasDictIn K C_House=true) (po_House:PySem.W.plainOver K C_House=true) (sa_House:PySem.W.findIn K (.ref C_House) "__setattr__"=some (some (.builtin "object.__setattr__"))) (mk_House:PySem.W.makesIn K C_House=true) (kc_House:PySem.W.keepIn K (.ref C_House)=true) (n_House_place:PySem.W.findIn K (.ref C_House) "place"=some none) (n_House_name:PySem.W.findIn K (.ref C_House) "name"=some none) (n_House_hearings:PySem.W.findIn K (.ref C_House) "hearings"=some none) (n_House_tellings:PySem.W.findIn K (.ref C_House) "tellings"=some none) (n_House_going:PySem.W.findIn K (.ref C_House) "going"=some none) (n_House_times:PySem.W.findIn K (.ref C_House) "times"=some none)
 {f1:Addr} {od1 an1:Option Addr} {sl1:Array (Option Value)} {oc1 kV1 dc1 pm1 cd1 ct1:Value}
 {dt1:Addr} {odd1:Option Addr} {nd1:Nat} {sld1:Array (Option Value)}
 (a1:PySem.W.nsIn K mainGlobals "holds"=some (some (.ref f1))) (l1:K.lookup f1=some ⟨oc1,od1, .func (PySem.W.fnOf "holds" "holds" (zq zdz) (zo zdz) (zd zdz) (.ref dt1) kV1 dc1 pm1 an1 cd1 ct1),sl1⟩) (c1:PySem.W.codeIn K cd1 "holds"=true) (k1:PySem.W.keepIn K (.ref f1)=true)
 (ld1:K.lookup dt1=some ⟨.type "tuple",odd1, .seq #[.none] nd1,sld1⟩)
 {f2:Addr} {od2 an2:Option Addr} {sl2:Array (Option Value)} {oc2 kV2 dc2 pm2 cd2 ct2:Value}
 {dt2:Addr} {odd2:Option Addr} {nd2:Nat} {sld2:Array (Option Value)}
 (a2:PySem.W.nsIn K mainGlobals "all_hold"=some (some (.ref f2))) (l2:K.lookup f2=some ⟨oc2,od2, .func (PySem.W.fnOf "all_hold" "all_hold" (zq zbG) (zo zbG) (zd zbG) (.ref dt2) kV2 dc2 pm2 an2 cd2 ct2),sl2⟩) (c2:PySem.W.codeIn K cd2 "all_hold"=true) (k2:PySem.W.keepIn K (.ref f2)=true)
 (ld2:K.lookup dt2=some ⟨.type "tuple",odd2, .seq #[.none] nd2,sld2⟩)
 {f3:Addr} {od3 an3:Option Addr} {sl3:Array (Option Value)} {oc3 kV3 dc3 pm3 cd3 ct3:Value}
 (a3:PySem.W.nsIn K mainGlobals "likings_of"=some (some (.ref f3))) (l3:K.lookup f3=some ⟨oc3,od3, .func (PySem.W.fnOf "likings_of" "likings_of" (zq za0) (zo za0) (zd za0) .none kV3 dc3 pm3 an3 cd3 ct3),sl3⟩) (c3:PySem.W.codeIn K cd3 "likings_of"=true) (k3:PySem.W.keepIn K (.ref f3)=true)
 {f4:Addr} {od4 an4:Option Addr} {sl4:Array (Option Value)} {oc4 kV4 dc4 pm4 cd4 ct4:Value}
 (a4:PySem.W.nsIn K mainGlobals "hands_of"=some (some (.ref f4))) (l4:K.lookup f4=some ⟨oc4,od4, .func (PySem.W.fnOf "hands_of" "hands_of" (zq zbJ) (zo zbJ) (zd zbJ) .none kV4 dc4 pm4 an4 cd4 ct4),sl4⟩) (c4:PySem.W.codeIn K cd4 "hands_of"=true) (k4:PySem.W.keepIn K (.ref f4)=true)
 {f5:Addr} {od5 an5:Option Addr} {sl5:Array (Option Value)} {oc5 kV5 dc5 pm5 cd5 ct5:Value}
 (a5:PySem.W.nsIn K mainGlobals "tied"=some (some (.ref f5))) (l5:K.lookup f5=some ⟨oc5,od5, .func (PySem.W.fnOf "tied" "tied" (zq zdm) (zo zdm) (zd zdm) .none kV5 dc5 pm5 an5 cd5 ct5),sl5⟩) (c5:PySem.W.codeIn K cd5 "tied"=true) (k5:PySem.W.keepIn K (.ref f5)=true)
 {f6:Addr} {od6 an6:Option Addr} {sl6:Array (Option Value)} {oc6 kV6 dc6 pm6 cd6 ct6:Value}
 (a6:PySem.W.nsIn K mainGlobals "marks_behind"=some (some (.ref f6))) (l6:K.lookup f6=some ⟨oc6,od6, .func (PySem.W.fnOf "marks_behind" "marks_behind" (zq z8) (zo z8) (zd z8) .none kV6 dc6 pm6 an6 cd6 ct6),sl6⟩) (c6:PySem.W.codeIn K cd6 "marks_behind"=true) (k6:PySem.W.keepIn K (.ref f6)=true)
 {f7:Addr} {od7 an7:Option Addr} {sl7:Array (Option Value)} {oc7 kV7 dc7 pm7 cd7 ct7:Value}
 (a7:PySem.W.nsIn K mainGlobals "handed"=some (some (.ref f7))) (l7:K.lookup f7=some ⟨oc7,od7, .func (PySem.W.fnOf "handed" "handed" (zq zcI) (zo zcI) (zd zcI) .none kV7 dc7 pm7 an7 cd7 ct7),sl7⟩) (c7:PySem.W.codeIn K cd7 "handed"=true) (k7:PySem.W.keepIn K (.ref f7)=true)
 {f8:Addr} {od8 an8:Option Addr} {sl8:Array (Option Value)} {oc8 kV8 dc8 pm8 cd8 ct8:Value}
 (a8:PySem.W.nsIn K mainGlobals "worth"=some (some (.ref f8))) (l8:K.lookup f8=some ⟨oc8,od8, .func (PySem.W.fnOf "worth" "worth" (zq zdB) (zo zdB) (zd zdB) .none kV8 dc8 pm8 an8 cd8 ct8),sl8⟩) (c8:PySem.W.codeIn K cd8 "worth"=true) (k8:PySem.W.keepIn K (.ref f8)=true)
 {f9:Addr} {od9 an9:Option Addr} {sl9:Array (Option Value)} {oc9 kV9 dc9 pm9 cd9 ct9:Value}
 (a9:PySem.W.nsIn K mainGlobals "liking_key"=some (some (.ref f9))) (l9:K.lookup f9=some ⟨oc9,od9, .func (PySem.W.fnOf "liking_key" "liking_key" (zq zaY) (zo zaY) (zd zaY) .none kV9 dc9 pm9 an9 cd9 ct9),sl9⟩) (c9:PySem.W.codeIn K cd9 "liking_key"=true) (k9:PySem.W.keepIn K (.ref f9)=true)
 {f10:Addr} {od10 an10:Option Addr} {sl10:Array (Option Value)} {oc10 kV10 dc10 pm10 cd10 ct10:Value}
 (a10:PySem.W.nsIn K mainGlobals "most_liked"=some (some (.ref f10))) (l10:K.lookup f10=some ⟨oc10,od10, .func (PySem.W.fnOf "most_liked" "most_liked" (zq zas) (zo zas) (zd zas) .none kV10 dc10 pm10 an10 cd10 ct10),sl10⟩) (c10:PySem.W.codeIn K cd10 "most_liked"=true) (k10:PySem.W.keepIn K (.ref f10)=true)
 {f11:Addr} {od11 an11:Option Addr} {sl11:Array (Option Value)} {oc11 kV11 dc11 pm11 cd11 ct11:Value}
 (a11:PySem.W.findIn K (.ref C_House) "__init__"=some (some (.ref f11))) (i11:PySem.W.isFn K (.ref f11)=true) (l11:K.lookup f11=some ⟨oc11,od11, .func (PySem.W.fnOf "__init__" "House.__init__" (zq z7) (zo z7) (zd z7) .none kV11 dc11 pm11 an11 cd11 ct11),sl11⟩) (c11:PySem.W.codeIn K cd11 "House.__init__"=true) (k11:PySem.W.keepIn K (.ref f11)=true)
 {f12:Addr} {od12 an12:Option Addr} {sl12:Array (Option Value)} {oc12 kV12 dc12 pm12 cd12 ct12:Value}
 (a12:PySem.W.findIn K (.ref C_House) "way"=some (some (.ref f12))) (i12:PySem.W.isFn K (.ref f12)=true) (l12:K.lookup f12=some ⟨oc12,od12, .func (PySem.W.fnOf "way" "House.way" (zq zbg) (zo zbg) (zd zbg) .none kV12 dc12 pm12 an12 cd12 ct12),sl12⟩) (c12:PySem.W.codeIn K cd12 "House.way"=true) (k12:PySem.W.keepIn K (.ref f12)=true)
 {f13:Addr} {od13 an13:Option Addr} {sl13:Array (Option Value)} {oc13 kV13 dc13 pm13 cd13 ct13:Value}
 (a13:PySem.W.findIn K (.ref C_House) "marks"=some (some (.ref f13))) (i13:PySem.W.isFn K (.ref f13)=true) (l13:K.lookup f13=some ⟨oc13,od13, .func (PySem.W.fnOf "marks" "House.marks" (zq zaL) (zo zaL) (zd zaL) .none kV13 dc13 pm13 an13 cd13 ct13),sl13⟩) (c13:PySem.W.codeIn K cd13 "House.marks"=true) (k13:PySem.W.keepIn K (.ref f13)=true)
 {f14:Addr} {od14 an14:Option Addr} {sl14:Array (Option Value)} {oc14 kV14 dc14 pm14 cd14 ct14:Value}
 (a14:PySem.W.findIn K (.ref C_House) "heard"=some (some (.ref f14))) (i14:PySem.W.isFn K (.ref f14)=true) (l14:K.lookup f14=some ⟨oc14,od14, .func (PySem.W.fnOf "heard" "House.heard" (zq zaI) (zo zaI) (zd zaI) .none kV14 dc14 pm14 an14 cd14 ct14),sl14⟩) (c14:PySem.W.codeIn K cd14 "House.heard"=true) (k14:PySem.W.keepIn K (.ref f14)=true)
 {f15:Addr} {od15 an15:Option Addr} {sl15:Array (Option Value)} {oc15 kV15 dc15 pm15 cd15 ct15:Value}
 (a15:PySem.W.findIn K (.ref C_House) "begin"=some (some (.ref f15))) (i15:PySem.W.isFn K (.ref f15)=true) (l15:K.lookup f15=some ⟨oc15,od15, .func (PySem.W.fnOf "begin" "House.begin" (zq zaD) (zo zaD) (zd zaD) .none kV15 dc15 pm15 an15 cd15 ct15),sl15⟩) (c15:PySem.W.codeIn K cd15 "House.begin"=true) (k15:PySem.W.keepIn K (.ref f15)=true)
 {f16:Addr} {od16 an16:Option Addr} {sl16:Array (Option Value)} {oc16 kV16 dc16 pm16 cd16 ct16:Value}
 (a16:PySem.W.findIn K (.ref C_House) "hear"=some (some (.ref f16))) (i16:PySem.W.isFn K (.ref f16)=true) (l16:K.lookup f16=some ⟨oc16,od16, .func (PySem.W.fnOf "hear" "House.hear" (zq zaW) (zo zaW) (zd zaW) .none kV16 dc16 pm16 an16 cd16 ct16),sl16⟩) (c16:PySem.W.codeIn K cd16 "House.hear"=true) (k16:PySem.W.keepIn K (.ref f16)=true)
 {f17:Addr} {od17 an17:Option Addr} {sl17:Array (Option Value)} {oc17 kV17 dc17 pm17 cd17 ct17:Value}
 (a17:PySem.W.findIn K (.ref C_House) "choose"=some (some (.ref f17))) (i17:PySem.W.isFn K (.ref f17)=true) (l17:K.lookup f17=some ⟨oc17,od17, .func (PySem.W.fnOf "choose" "House.choose" (zq zao) (zo zao) (zd zao) .none kV17 dc17 pm17 an17 cd17 ct17),sl17⟩) (c17:PySem.W.codeIn K cd17 "House.choose"=true) (k17:PySem.W.keepIn K (.ref f17)=true)
 {f18:Addr} {od18 an18:Option Addr} {sl18:Array (Option Value)} {oc18 kV18 dc18 pm18 cd18 ct18:Value}
 (a18:PySem.W.findIn K (.ref C_House) "open_ways"=some (some (.ref f18))) (i18:PySem.W.isFn K (.ref f18)=true) (l18:K.lookup f18=some ⟨oc18,od18, .func (PySem.W.fnOf "open_ways" "House.open_ways" (zq zX) (zo zX) (zd zX) .none kV18 dc18 pm18 an18 cd18 ct18),sl18⟩) (c18:PySem.W.codeIn K cd18 "House.open_ways"=true) (k18:PySem.W.keepIn K (.ref f18)=true)
 {f19:Addr} {od19 an19:Option Addr} {sl19:Array (Option Value)} {oc19 kV19 dc19 pm19 cd19 ct19:Value}
 (a19:PySem.W.findIn K (.ref C_House) "go_by"=some (some (.ref f19))) (i19:PySem.W.isFn K (.ref f19)=true) (l19:K.lookup f19=some ⟨oc19,od19, .func (PySem.W.fnOf "go_by" "House.go_by" (zq zaE) (zo zaE) (zd zaE) .none kV19 dc19 pm19 an19 cd19 ct19),sl19⟩) (c19:PySem.W.codeIn K cd19 "House.go_by"=true) (k19:PySem.W.keepIn K (.ref f19)=true)
 {f20:Addr} {od20 an20:Option Addr} {sl20:Array (Option Value)} {oc20 kV20 dc20 pm20 cd20 ct20:Value}
 (a20:PySem.W.findIn K (.ref C_House) "offer"=some (some (.ref f20))) (i20:PySem.W.isFn K (.ref f20)=true) (l20:K.lookup f20=some ⟨oc20,od20, .func (PySem.W.fnOf "offer" "House.offer" (zq zaB) (zo zaB) (zd zaB) .none kV20 dc20 pm20 an20 cd20 ct20),sl20⟩) (c20:PySem.W.codeIn K cd20 "House.offer"=true) (k20:PySem.W.keepIn K (.ref f20)=true)
 {f21:Addr} {od21 an21:Option Addr} {sl21:Array (Option Value)} {oc21 kV21 dc21 pm21 cd21 ct21:Value}
 (a21:PySem.W.findIn K (.ref C_House) "letters"=some (some (.ref f21))) (i21:PySem.W.isFn K (.ref f21)=true) (l21:K.lookup f21=some ⟨oc21,od21, .func (PySem.W.fnOf "letters" "House.letters" (zq zae) (zo zae) (zd zae) .none kV21 dc21 pm21 an21 cd21 ct21),sl21⟩) (c21:PySem.W.codeIn K cd21 "House.letters"=true) (k21:PySem.W.keepIn K (.ref f21)=true)
 {f22:Addr} {od22 an22:Option Addr} {sl22:Array (Option Value)} {oc22 kV22 dc22 pm22 cd22 ct22:Value}
 (a22:PySem.W.nsIn K mainGlobals "_law_hand"=some (some (.ref f22))) (l22:K.lookup f22=some ⟨oc22,od22, .func (PySem.W.fnOf "_law_hand" "_law_hand" (zq zbi) (zo zbi) (zd zbi) .none kV22 dc22 pm22 an22 cd22 ct22),sl22⟩) (c22:PySem.W.codeIn K cd22 "_law_hand"=true) (k22:PySem.W.keepIn K (.ref f22)=true)
 {f23:Addr} {od23 an23:Option Addr} {sl23:Array (Option Value)} {oc23 kV23 dc23 pm23 cd23 ct23:Value}
 (a23:PySem.W.nsIn K mainGlobals "_law_all"=some (some (.ref f23))) (l23:K.lookup f23=some ⟨oc23,od23, .func (PySem.W.fnOf "_law_all" "_law_all" (zq zbI) (zo zbI) (zd zbI) .none kV23 dc23 pm23 an23 cd23 ct23),sl23⟩) (c23:PySem.W.codeIn K cd23 "_law_all"=true) (k23:PySem.W.keepIn K (.ref f23)=true)
 {f24:Addr} {od24 an24:Option Addr} {sl24:Array (Option Value)} {oc24 kV24 dc24 pm24 cd24 ct24:Value}
 (a24:PySem.W.nsIn K mainGlobals "_law_take"=some (some (.ref f24))) (l24:K.lookup f24=some ⟨oc24,od24, .func (PySem.W.fnOf "_law_take" "_law_take" (zq zbe) (zo zbe) (zd zbe) .none kV24 dc24 pm24 an24 cd24 ct24),sl24⟩) (c24:PySem.W.codeIn K cd24 "_law_take"=true) (k24:PySem.W.keepIn K (.ref f24)=true)
 {f25:Addr} {od25 an25:Option Addr} {sl25:Array (Option Value)} {oc25 kV25 dc25 pm25 cd25 ct25:Value}
 (a25:PySem.W.nsIn K mainGlobals "_law_pick"=some (some (.ref f25))) (l25:K.lookup f25=some ⟨oc25,od25, .func (PySem.W.fnOf "_law_pick" "_law_pick" (zq zbl) (zo zbl) (zd zbl) .none kV25 dc25 pm25 an25 cd25 ct25),sl25⟩) (c25:PySem.W.codeIn K cd25 "_law_pick"=true) (k25:PySem.W.keepIn K (.ref f25)=true)
 {f26:Addr} {od26 an26:Option Addr} {sl26:Array (Option Value)} {oc26 kV26 dc26 pm26 cd26 ct26:Value}
 (a26:PySem.W.nsIn K mainGlobals "_law_names"=some (some (.ref f26))) (l26:K.lookup f26=some ⟨oc26,od26, .func (PySem.W.fnOf "_law_names" "_law_names" (zq zaw) (zo zaw) (zd zaw) .none kV26 dc26 pm26 an26 cd26 ct26),sl26⟩) (c26:PySem.W.codeIn K cd26 "_law_names"=true) (k26:PySem.W.keepIn K (.ref f26)=true)
 {f27:Addr} {od27 an27:Option Addr} {sl27:Array (Option Value)} {oc27 kV27 dc27 pm27 cd27 ct27:Value}
 (a27:PySem.W.nsIn K mainGlobals "_law_cond"=some (some (.ref f27))) (l27:K.lookup f27=some ⟨oc27,od27, .func (PySem.W.fnOf "_law_cond" "_law_cond" (zq zbo) (zo zbo) (zd zbo) .none kV27 dc27 pm27 an27 cd27 ct27),sl27⟩) (c27:PySem.W.codeIn K cd27 "_law_cond"=true) (k27:PySem.W.keepIn K (.ref f27)=true)
 {f28:Addr} {od28 an28:Option Addr} {sl28:Array (Option Value)} {oc28 kV28 dc28 pm28 cd28 ct28:Value}
 (a28:PySem.W.nsIn K mainGlobals "_law_conds"=some (some (.ref f28))) (l28:K.lookup f28=some ⟨oc28,od28, .func (PySem.W.fnOf "_law_conds" "_law_conds" (zq zax) (zo zax) (zd zax) .none kV28 dc28 pm28 an28 cd28 ct28),sl28⟩) (c28:PySem.W.codeIn K cd28 "_law_conds"=true) (k28:PySem.W.keepIn K (.ref f28)=true)
 {f29:Addr} {od29 an29:Option Addr} {sl29:Array (Option Value)} {oc29 kV29 dc29 pm29 cd29 ct29:Value}
 (a29:PySem.W.nsIn K mainGlobals "_law_likings"=some (some (.ref f29))) (l29:K.lookup f29=some ⟨oc29,od29, .func (PySem.W.fnOf "_law_likings" "_law_likings" (zq zan) (zo zan) (zd zan) .none kV29 dc29 pm29 an29 cd29 ct29),sl29⟩) (c29:PySem.W.codeIn K cd29 "_law_likings"=true) (k29:PySem.W.keepIn K (.ref f29)=true)
 {f30:Addr} {od30 an30:Option Addr} {sl30:Array (Option Value)} {oc30 kV30 dc30 pm30 cd30 ct30:Value}
 (a30:PySem.W.nsIn K mainGlobals "_law_hands"=some (some (.ref f30))) (l30:K.lookup f30=some ⟨oc30,od30, .func (PySem.W.fnOf "_law_hands" "_law_hands" (zq zaV) (zo zaV) (zd zaV) .none kV30 dc30 pm30 an30 cd30 ct30),sl30⟩) (c30:PySem.W.codeIn K cd30 "_law_hands"=true) (k30:PySem.W.keepIn K (.ref f30)=true)
 {f31:Addr} {od31 an31:Option Addr} {sl31:Array (Option Value)} {oc31 kV31 dc31 pm31 cd31 ct31:Value}
 (a31:PySem.W.nsIn K mainGlobals "_law_ties"=some (some (.ref f31))) (l31:K.lookup f31=some ⟨oc31,od31, .func (PySem.W.fnOf "_law_ties" "_law_ties" (zq zbn) (zo zbn) (zd zbn) .none kV31 dc31 pm31 an31 cd31 ct31),sl31⟩) (c31:PySem.W.codeIn K cd31 "_law_ties"=true) (k31:PySem.W.keepIn K (.ref f31)=true)
 {f32:Addr} {od32 an32:Option Addr} {sl32:Array (Option Value)} {oc32 kV32 dc32 pm32 cd32 ct32:Value}
 (a32:PySem.W.nsIn K mainGlobals "_law_town"=some (some (.ref f32))) (l32:K.lookup f32=some ⟨oc32,od32, .func (PySem.W.fnOf "_law_town" "_law_town" (zq zar) (zo zar) (zd zar) .none kV32 dc32 pm32 an32 cd32 ct32),sl32⟩) (c32:PySem.W.codeIn K cd32 "_law_town"=true) (k32:PySem.W.keepIn K (.ref f32)=true)
 {f33:Addr} {od33 an33:Option Addr} {sl33:Array (Option Value)} {oc33 kV33 dc33 pm33 cd33 ct33:Value}
 (a33:PySem.W.nsIn K mainGlobals "_law_home"=some (some (.ref f33))) (l33:K.lookup f33=some ⟨oc33,od33, .func (PySem.W.fnOf "_law_home" "_law_home" (zq zbk) (zo zbk) (zd zbk) .none kV33 dc33 pm33 an33 cd33 ct33),sl33⟩) (c33:PySem.W.codeIn K cd33 "_law_home"=true) (k33:PySem.W.keepIn K (.ref f33)=true)
 {f34:Addr} {od34 an34:Option Addr} {sl34:Array (Option Value)} {oc34 kV34 dc34 pm34 cd34 ct34:Value}
 (a34:PySem.W.nsIn K mainGlobals "_law_choose"=some (some (.ref f34))) (l34:K.lookup f34=some ⟨oc34,od34, .func (PySem.W.fnOf "_law_choose" "_law_choose" (zq zaJ) (zo zaJ) (zd zaJ) .none kV34 dc34 pm34 an34 cd34 ct34),sl34⟩) (c34:PySem.W.codeIn K cd34 "_law_choose"=true) (k34:PySem.W.keepIn K (.ref f34)=true)
 {f35:Addr} {od35 an35:Option Addr} {sl35:Array (Option Value)} {oc35 kV35 dc35 pm35 cd35 ct35:Value}
 (a35:PySem.W.nsIn K mainGlobals "_law_way"=some (some (.ref f35))) (l35:K.lookup f35=some ⟨oc35,od35, .func (PySem.W.fnOf "_law_way" "_law_way" (zq zbH) (zo zbH) (zd zbH) .none kV35 dc35 pm35 an35 cd35 ct35),sl35⟩) (c35:PySem.W.codeIn K cd35 "_law_way"=true) (k35:PySem.W.keepIn K (.ref f35)=true)
 {f36:Addr} {od36 an36:Option Addr} {sl36:Array (Option Value)} {oc36 kV36 dc36 pm36 cd36 ct36:Value}
 (a36:PySem.W.nsIn K mainGlobals "_law_tell"=some (some (.ref f36))) (l36:K.lookup f36=some ⟨oc36,od36, .func (PySem.W.fnOf "_law_tell" "_law_tell" (zq zbf) (zo zbf) (zd zbf) .none kV36 dc36 pm36 an36 cd36 ct36),sl36⟩) (c36:PySem.W.codeIn K cd36 "_law_tell"=true) (k36:PySem.W.keepIn K (.ref f36)=true)
 {f37:Addr} {od37 an37:Option Addr} {sl37:Array (Option Value)} {oc37 kV37 dc37 pm37 cd37 ct37:Value}
 (a37:PySem.W.nsIn K mainGlobals "_law_hear"=some (some (.ref f37))) (l37:K.lookup f37=some ⟨oc37,od37, .func (PySem.W.fnOf "_law_hear" "_law_hear" (zq zbh) (zo zbh) (zd zbh) .none kV37 dc37 pm37 an37 cd37 ct37),sl37⟩) (c37:PySem.W.codeIn K cd37 "_law_hear"=true) (k37:PySem.W.keepIn K (.ref f37)=true)
 {f38:Addr} {od38 an38:Option Addr} {sl38:Array (Option Value)} {oc38 kV38 dc38 pm38 cd38 ct38:Value}
 (a38:PySem.W.nsIn K mainGlobals "_law_real_way"=some (some (.ref f38))) (l38:K.lookup f38=some ⟨oc38,od38, .func (PySem.W.fnOf "_law_real_way" "_law_real_way" (zq zZ) (zo zZ) (zd zZ) .none kV38 dc38 pm38 an38 cd38 ct38),sl38⟩) (c38:PySem.W.codeIn K cd38 "_law_real_way"=true) (k38:PySem.W.keepIn K (.ref f38)=true)
 {f39:Addr} {od39 an39:Option Addr} {sl39:Array (Option Value)} {oc39 kV39 dc39 pm39 cd39 ct39:Value}
 (a39:PySem.W.nsIn K mainGlobals "_law_some_marks"=some (some (.ref f39))) (l39:K.lookup f39=some ⟨oc39,od39, .func (PySem.W.fnOf "_law_some_marks" "_law_some_marks" (zq zR) (zo zR) (zd zR) .none kV39 dc39 pm39 an39 cd39 ct39),sl39⟩) (c39:PySem.W.codeIn K cd39 "_law_some_marks"=true) (k39:PySem.W.keepIn K (.ref f39)=true)
 {f40:Addr} {od40 an40:Option Addr} {sl40:Array (Option Value)} {oc40 kV40 dc40 pm40 cd40 ct40:Value}
 (a40:PySem.W.nsIn K mainGlobals "_law_letter"=some (some (.ref f40))) (l40:K.lookup f40=some ⟨oc40,od40, .func (PySem.W.fnOf "_law_letter" "_law_letter" (zq zaC) (zo zaC) (zd zaC) .none kV40 dc40 pm40 an40 cd40 ct40),sl40⟩) (c40:PySem.W.codeIn K cd40 "_law_letter"=true) (k40:PySem.W.keepIn K (.ref f40)=true)
 {f41:Addr} {od41 an41:Option Addr} {sl41:Array (Option Value)} {oc41 kV41 dc41 pm41 cd41 ct41:Value}
 (a41:PySem.W.nsIn K mainGlobals "_law_is_so"=some (some (.ref f41))) (l41:K.lookup f41=some ⟨oc41,od41, .func (PySem.W.fnOf "_law_is_so" "_law_is_so" (zq zat) (zo zat) (zd zat) .none kV41 dc41 pm41 an41 cd41 ct41),sl41⟩) (c41:PySem.W.codeIn K cd41 "_law_is_so"=true) (k41:PySem.W.keepIn K (.ref f41)=true)
 {f42:Addr} {od42 an42:Option Addr} {sl42:Array (Option Value)} {oc42 kV42 dc42 pm42 cd42 ct42:Value}
 (a42:PySem.W.nsIn K mainGlobals "law"=some (some (.ref f42))) (l42:K.lookup f42=some ⟨oc42,od42, .func (PySem.W.fnOf "law" "law" (zq zdE) (zo zdE) (zd zdE) .none kV42 dc42 pm42 an42 cd42 ct42),sl42⟩) (c42:PySem.W.codeIn K cd42 "law"=true) (k42:PySem.W.keepIn K (.ref f42)=true)
 {aT_NOTHING eT_NOTHING:Addr} {odT_NOTHING odE_NOTHING:Option Addr} {slT_NOTHING slE_NOTHING:Array (Option Value)} {nT_NOTHING nE_NOTHING:Nat} {tT_NOTHING:Tok} (g_NOTHING:PySem.W.nsIn K mainGlobals "NOTHING"=some (some (.ref aT_NOTHING))) (l_NOTHING:K.lookup aT_NOTHING=some ⟨.type "tuple",odT_NOTHING, .seq #[.int 0 tT_NOTHING, .none, .ref eT_NOTHING] nT_NOTHING,slT_NOTHING⟩) (le_NOTHING:K.lookup eT_NOTHING=some ⟨.type "tuple",odE_NOTHING, .seq #[] nE_NOTHING,slE_NOTHING⟩)
 (z_isinstance:PySem.W.nsIn K mainGlobals "isinstance"=some none)
 (z_len:PySem.W.nsIn K mainGlobals "len"=some none)
 (z_int:PySem.W.nsIn K mainGlobals "int"=some none)
 (z_tuple:PySem.W.nsIn K mainGlobals "tuple"=some none)
 (z_range:PySem.W.nsIn K mainGlobals "range"=some none)
 (z_max:PySem.W.nsIn K mainGlobals "max"=some none)
 (z_min:PySem.W.nsIn K mainGlobals "min"=some none)
 (z_sorted:PySem.W.nsIn K mainGlobals "sorted"=some none)
 (z_all:PySem.W.nsIn K mainGlobals "all"=some none)
 (z_list:PySem.W.nsIn K mainGlobals "list"=some none)
 (z_str:PySem.W.nsIn K mainGlobals "str"=some none)
 :∃fd:FuncData,(∀(s:Shared) (v:Value),BindsTo s fd ⟨[v],[]⟩ [("_law_script",v)])/\∀base:Heap,K.In base->base.Ns mainGlobals mg->FnOk l.prog w K mg base CX0 10 fa fd ["_law_script"] (zkq K):=by
 have e:=hfa.symm.trans (PySem.W.mg_of X G a42)
 cases e
 have F1:=zkp (st:=zdz) l1 ld1 c1 k1
 have F2:=zkp (st:=zbG) l2 ld2 c2 k2
 have F3:=zC (st:=za0) l3 c3 k3
 have F4:=zC (st:=zbJ) l4 c4 k4
 have F5:=zC (st:=zdm) l5 c5 k5
 have F6:=zC (st:=z8) l6 c6 k6
 have F7:=zC (st:=zcI) l7 c7 k7
 have F8:=zC (st:=zdB) l8 c8 k8
 have F9:=zC (st:=zaY) l9 c9 k9
 have F10:=zC (st:=zas) l10 c10 k10
 have F11:=zC (st:=z7) l11 c11 k11
 have F12:=zC (st:=zbg) l12 c12 k12
 have F13:=zC (st:=zaL) l13 c13 k13
 have F14:=zC (st:=zaI) l14 c14 k14
 have F15:=zC (st:=zaD) l15 c15 k15
 have F16:=zC (st:=zaW) l16 c16 k16
 have F17:=zC (st:=zao) l17 c17 k17
 have F18:=zC (st:=zX) l18 c18 k18
 have F19:=zC (st:=zaE) l19 c19 k19
 have F20:=zC (st:=zaB) l20 c20 k20
 have F21:=zC (st:=zae) l21 c21 k21
 have F22:=zC (st:=zbi) l22 c22 k22
 have F23:=zC (st:=zbI) l23 c23 k23
 have F24:=zC (st:=zbe) l24 c24 k24
 have F25:=zC (st:=zbl) l25 c25 k25
 have F26:=zC (st:=zaw) l26 c26 k26
 have F27:=zC (st:=zbo) l27 c27 k27
 have F28:=zC (st:=zax) l28 c28 k28
 have F29:=zC (st:=zan) l29 c29 k29
 have F30:=zC (st:=zaV) l30 c30 k30
 have F31:=zC (st:=zbn) l31 c31 k31
 have F32:=zC (st:=zar) l32 c32 k32
 have F33:=zC (st:=zbk) l33 c33 k33
 have F34:=zC (st:=zaJ) l34 c34 k34
 have F35:=zC (st:=zbH) l35 c35 k35
 have F36:=zC (st:=zbf) l36 c36 k36
 have F37:=zC (st:=zbh) l37 c37 k37
 have F38:=zC (st:=zZ) l38 c38 k38
 have F39:=zC (st:=zR) l39 c39 k39
 have F40:=zC (st:=zaC) l40 c40 k40
 have F41:=zC (st:=zat) l41 c41 k41
 have F42:=zC (st:=zdE) l42 c42 k42
 have b1:=F1.binds (ps:=zb7) (ds:=[]) 4 rfl λ_ _ _ _ _ _ _=>of4 (λ_ _ _ _=>⟨_,rfl,rfl⟩)
 have e1:=F1.binds (ps:=zb7) (ds:=[.none]) 3 rfl λ_ _ _ _ _ _ _=>of3 (λ_ _ _=>⟨_,rfl,rfl⟩)
 have b2:=F2.binds (ps:=zba) (ds:=[]) 4 rfl λ_ _ _ _ _ _ _=>of4 (λ_ _ _ _=>⟨_,rfl,rfl⟩)
 have e2:=F2.binds (ps:=zba) (ds:=[.none]) 3 rfl λ_ _ _ _ _ _ _=>of3 (λ_ _ _=>⟨_,rfl,rfl⟩)
 have b3:=F3.binds (ps:=zbu) λ_ _ _ _ _ _=>of2 (λ_ _=>rfl)
 have b4:=F4.binds (ps:=zck) λ_ _ _ _ _ _=>of2 (λ_ _=>rfl)
 have b5:=F5.binds (ps:=zco) λ_ _ _ _ _ _=>of2 (λ_ _=>rfl)
 have b6:=F6.binds (ps:=zaT) λ_ _ _ _ _ _=>of2 (λ_ _=>rfl)
 have b7:=F7.binds (ps:=zcO) λ_ _ _ _ _ _=>of4 (λ_ _ _ _=>rfl)
 have b8:=F8.binds (ps:=zc4) λ_ _ _ _ _ _=>of3 (λ_ _ _=>rfl)
 have b9:=F9.binds (ps:=zbw) λ_ _ _ _ _ _=>of3 (λ_ _ _=>rfl)
 have b10:=F10.binds (ps:=zbv) λ_ _ _ _ _ _=>of2 (λ_ _=>rfl)
 have b11:=F11.binds (ps:=zap) λ_ _ _ _ _ _=>of3 (λ_ _ _=>rfl)
 have b12:=F12.binds (ps:=zbT) λ_ _ _ _ _ _=>of1 (λ_=>rfl)
 have b13:=F13.binds (ps:=za3) λ_ _ _ _ _ _=>of1 (λ_=>rfl)
 have b14:=F14.binds (ps:=zaH) λ_ _ _ _ _ _=>of2 (λ_ _=>rfl)
 have b15:=F15.binds (ps:=za4) λ_ _ _ _ _ _=>of1 (λ_=>rfl)
 have b16:=F16.binds (ps:=zbs) λ_ _ _ _ _ _=>of2 (λ_ _=>rfl)
 have b17:=F17.binds (ps:=zaQ) λ_ _ _ _ _ _=>of1 (λ_=>rfl)
 have b18:=F18.binds (ps:=zai) λ_ _ _ _ _ _=>of1 (λ_=>rfl)
 have b19:=F19.binds (ps:=zaF) λ_ _ _ _ _ _=>of2 (λ_ _=>rfl)
 have b20:=F20.binds (ps:=za5) λ_ _ _ _ _ _=>of2 (λ_ _=>rfl)
 have b21:=F21.binds (ps:=zad) λ_ _ _ _ _ _=>of1 (λ_=>rfl)
 have b22:=F22.binds (ps:=zbZ) λ_ _ _ _ _ _=>of2 (λ_ _=>rfl)
 have b23:=F23.binds (ps:=zci) λ_ _ _ _ _ _=>of1 (λ_=>rfl)
 have b24:=F24.binds (ps:=zN) λ_ _ _ _ _ _=>of2 (λ_ _=>rfl)
 have b25:=F25.binds (ps:=zJ) λ_ _ _ _ _ _=>of2 (λ_ _=>rfl)
 have b26:=F26.binds (ps:=zbC) λ_ _ _ _ _ _=>of2 (λ_ _=>rfl)
 have b27:=F27.binds (ps:=zb0) λ_ _ _ _ _ _=>of4 (λ_ _ _ _=>rfl)
 have b28:=F28.binds (ps:=zaX) λ_ _ _ _ _ _=>of4 (λ_ _ _ _=>rfl)
 have b29:=F29.binds (ps:=zaS) λ_ _ _ _ _ _=>of3 (λ_ _ _=>rfl)
 have b30:=F30.binds (ps:=zby) λ_ _ _ _ _ _=>of3 (λ_ _ _=>rfl)
 have b31:=F31.binds (ps:=zbR) λ_ _ _ _ _ _=>of3 (λ_ _ _=>rfl)
 have b32:=F32.binds (ps:=zbS) λ_ _ _ _ _ _=>of1 (λ_=>rfl)
 have b33:=F33.binds (ps:=zbX) λ_ _ _ _ _ _=>of1 (λ_=>rfl)
 have b34:=F34.binds (ps:=za2) λ_ _ _ _ _ _=>of2 (λ_ _=>rfl)
 have b35:=F35.binds (ps:=zbL) λ_ _ _ _ _ _=>of1 (λ_=>rfl)
 have b36:=F36.binds (ps:=zbp) λ_ _ _ _ _ _=>of2 (λ_ _=>rfl)
 have b37:=F37.binds (ps:=zbP) λ_ _ _ _ _ _=>of3 (λ_ _ _=>rfl)
 have b38:=F38.binds (ps:=zaz) λ_ _ _ _ _ _=>of3 (λ_ _ _=>rfl)
 have b39:=F39.binds (ps:=zag) λ_ _ _ _ _ _=>of2 (λ_ _=>rfl)
 have b40:=F40.binds (ps:=za6) λ_ _ _ _ _ _=>of4 (λ_ _ _ _=>rfl)
 have b41:=F41.binds (ps:=zbA) λ_ _ _ _ _ _=>of3 (λ_ _ _=>rfl)
 have b42:=F42.binds (ps:=zjR) λ_ _ _ _ _ _=>of1 (λ_=>rfl)
 have Y:Ev K mg:={
  c_House:=C_House,k_House:=⟨pg_House,hd_House,po_House,sa_House⟩,m_House:=PySem.W.mg_of X G aC_House,n_House_place:=n_House_place,n_House_name:=n_House_name,n_House_hearings:=n_House_hearings,n_House_tellings:=n_House_tellings,n_House_going:=n_House_going,n_House_times:=n_House_times,
  mk_House:=⟨mk_House,a11,i11,kc_House⟩,
  a_NOTHING:=_,e_NOTHING:=_,m_NOTHING:=PySem.W.mg_of X G g_NOTHING,t_NOTHING:=λH=> .inr ⟨_,_,nT_NOTHING,l_NOTHING,rfl,rfl,by show 3<=sizeLine;decide, .cons ⟨tT_NOTHING,rfl⟩ (.cons rfl (.cons rfl .nil))⟩,u_NOTHING:=λH=> .inr ⟨_,_,nE_NOTHING,le_NOTHING,rfl,rfl,by show 0<=sizeLine;decide, .nil⟩,
  a_holds:=f1,d_holds:=_,holds:=⟨F1,b1,e1,PySem.W.mg_of X G a1,k1⟩,
  a_all_hold:=f2,d_all_hold:=_,all_hold:=⟨F2,b2,e2,PySem.W.mg_of X G a2,k2⟩,
  a_likings_of:=f3,d_likings_of:=_,likings_of:=⟨F3,b3,PySem.W.mg_of X G a3,k3⟩,
  a_hands_of:=f4,d_hands_of:=_,hands_of:=⟨F4,b4,PySem.W.mg_of X G a4,k4⟩,
  a_tied:=f5,d_tied:=_,tied:=⟨F5,b5,PySem.W.mg_of X G a5,k5⟩,
  a_marks_behind:=f6,d_marks_behind:=_,marks_behind:=⟨F6,b6,PySem.W.mg_of X G a6,k6⟩,
  a_handed:=f7,d_handed:=_,handed:=⟨F7,b7,PySem.W.mg_of X G a7,k7⟩,
  a_worth:=f8,d_worth:=_,worth:=⟨F8,b8,PySem.W.mg_of X G a8,k8⟩,
  a_liking_key:=f9,d_liking_key:=_,liking_key:=⟨F9,b9,PySem.W.mg_of X G a9,k9⟩,
  a_most_liked:=f10,d_most_liked:=_,most_liked:=⟨F10,b10,PySem.W.mg_of X G a10,k10⟩,
  a_House___init__:=f11,d_House___init__:=_,House___init__:=⟨F11,b11,⟨a11,i11,k11⟩⟩,
  a_House_way:=f12,d_House_way:=_,House_way:=⟨F12,b12,⟨a12,i12,k12⟩⟩,
  a_House_marks:=f13,d_House_marks:=_,House_marks:=⟨F13,b13,⟨a13,i13,k13⟩⟩,
  a_House_heard:=f14,d_House_heard:=_,House_heard:=⟨F14,b14,⟨a14,i14,k14⟩⟩,
  a_House_begin:=f15,d_House_begin:=_,House_begin:=⟨F15,b15,⟨a15,i15,k15⟩⟩,
  a_House_hear:=f16,d_House_hear:=_,House_hear:=⟨F16,b16,⟨a16,i16,k16⟩⟩,
  a_House_choose:=f17,d_House_choose:=_,House_choose:=⟨F17,b17,⟨a17,i17,k17⟩⟩,
  a_House_open_ways:=f18,d_House_open_ways:=_,House_open_ways:=⟨F18,b18,⟨a18,i18,k18⟩⟩,
  a_House_go_by:=f19,d_House_go_by:=_,House_go_by:=⟨F19,b19,⟨a19,i19,k19⟩⟩,
  a_House_offer:=f20,d_House_offer:=_,House_offer:=⟨F20,b20,⟨a20,i20,k20⟩⟩,
  a_House_letters:=f21,d_House_letters:=_,House_letters:=⟨F21,b21,⟨a21,i21,k21⟩⟩,
  a__law_hand:=f22,d__law_hand:=_,_law_hand:=⟨F22,b22,PySem.W.mg_of X G a22,k22⟩,
  a__law_all:=f23,d__law_all:=_,_law_all:=⟨F23,b23,PySem.W.mg_of X G a23,k23⟩,
  a__law_take:=f24,d__law_take:=_,_law_take:=⟨F24,b24,PySem.W.mg_of X G a24,k24⟩,
  a__law_pick:=f25,d__law_pick:=_,_law_pick:=⟨F25,b25,PySem.W.mg_of X G a25,k25⟩,
  a__law_names:=f26,d__law_names:=_,_law_names:=⟨F26,b26,PySem.W.mg_of X G a26,k26⟩,
  a__law_cond:=f27,d__law_cond:=_,_law_cond:=⟨F27,b27,PySem.W.mg_of X G a27,k27⟩,
  a__law_conds:=f28,d__law_conds:=_,_law_conds:=⟨F28,b28,PySem.W.mg_of X G a28,k28⟩,
  a__law_likings:=f29,d__law_likings:=_,_law_likings:=⟨F29,b29,PySem.W.mg_of X G a29,k29⟩,
  a__law_hands:=f30,d__law_hands:=_,_law_hands:=⟨F30,b30,PySem.W.mg_of X G a30,k30⟩,
  a__law_ties:=f31,d__law_ties:=_,_law_ties:=⟨F31,b31,PySem.W.mg_of X G a31,k31⟩,
  a__law_town:=f32,d__law_town:=_,_law_town:=⟨F32,b32,PySem.W.mg_of X G a32,k32⟩,
  a__law_home:=f33,d__law_home:=_,_law_home:=⟨F33,b33,PySem.W.mg_of X G a33,k33⟩,
  a__law_choose:=f34,d__law_choose:=_,_law_choose:=⟨F34,b34,PySem.W.mg_of X G a34,k34⟩,
  a__law_way:=f35,d__law_way:=_,_law_way:=⟨F35,b35,PySem.W.mg_of X G a35,k35⟩,
  a__law_tell:=f36,d__law_tell:=_,_law_tell:=⟨F36,b36,PySem.W.mg_of X G a36,k36⟩,
  a__law_hear:=f37,d__law_hear:=_,_law_hear:=⟨F37,b37,PySem.W.mg_of X G a37,k37⟩,
  a__law_real_way:=f38,d__law_real_way:=_,_law_real_way:=⟨F38,b38,PySem.W.mg_of X G a38,k38⟩,
  a__law_some_marks:=f39,d__law_some_marks:=_,_law_some_marks:=⟨F39,b39,PySem.W.mg_of X G a39,k39⟩,
  a__law_letter:=f40,d__law_letter:=_,_law_letter:=⟨F40,b40,PySem.W.mg_of X G a40,k40⟩,
  a__law_is_so:=f41,d__law_is_so:=_,_law_is_so:=⟨F41,b41,PySem.W.mg_of X G a41,k41⟩,
  a_law:=fa,d_law:=_,law:=⟨F42,b42,PySem.W.mg_of X G a42,k42⟩,
  isinstance:=PySem.W.mg_none_of X G z_isinstance,
  len:=PySem.W.mg_none_of X G z_len,
  int:=PySem.W.mg_none_of X G z_int,
  tuple:=PySem.W.mg_none_of X G z_tuple,
  range:=PySem.W.mg_none_of X G z_range,
  max:=PySem.W.mg_none_of X G z_max,
  min:=PySem.W.mg_none_of X G z_min,
  sorted:=PySem.W.mg_none_of X G z_sorted,
  all:=PySem.W.mg_none_of X G z_all,
  list:=PySem.W.mg_none_of X G z_list,
  str:=PySem.W.mg_none_of X G z_str}
 exact⟨PySem.W.fnOf "law" "law" (zq zdE) (zo zdE) (zd zdE) .none kV42 dc42 pm42 an42 cd42 ct42,λs v=> .of_eq rfl,λbase _ _=>zkI Y F42⟩
noncomputable def vw:Program:={PySem.Challenge.pw_restways_k39_houses_hear with main:={PySem.Challenge.pw_restways_k39_houses_hear.main with body:=([0,5,6,7,9,10,12,13,14,16,17,19,20,21,22,23,24,25,26,27,28,29,30,31,32,33,34,35,36,37,38,39]:List Nat).filterMap λi=>PySem.Challenge.pw_restways_k39_houses_hear.main.body[i]?}}
end K39
open PySem PySem.W PyProof.Rows
local macro_rules | `(tactic|o_head $H)=> `(tactic|(
 refine holds_open (N:=3496) (q:=K39.vw) (loose:=[(PySem.Str.ofString "holds"),(PySem.Str.ofString "all_hold")]) (YP:=Hook.says $H) (Ya:=Hook.val $H) (Yf:=Hook.obs $H) (XP:=XL K39.vw [])
  (Xt:=λz=>xlAt K39.vw [] z&&recOk [] z) (λw=>by kernel_rfl) (Hook.of $H) (Hook.keeps $H) (λz e=>xl_of z (Bool.and_eq_true_iff.mp e).1) XL.keeps
  (by rfl) (by rfl) (by rfl) (λz e=>recFacts_of (Bool.and_eq_true_iff.mp e).2) (by rfl) (by first|assumption|decide +kernel) (by decide +kernel)
  ⟨rfl,rfl,rfl,rfl,rfl,by decide +kernel⟩ ?hw ?hc))
set_option maxRecDepth 100000 in
set_option maxHeartbeats 0 in
theorem PySem.Challenge.cw_restways_k39_houses_hear_holds : PySem.Challenge.rw_restways_k39_houses_hear.Holds := by
 w_on;o_law;k_head;(case hw=>w_witness2)
 k_fill
 refine K39.walk (l:=PySem.Challenge.rw_restways_k39_houses_hear) rfl rfl (λw h Y=>PySem.W.kIn_of Y) ?F
 case F=>
  intro w mg fa h KX G hmg
  refine' K39.all_mk KX G hmg ?aC_House ?pg_House ?hd_House ?po_House ?sa_House ?mk_House ?kc_House ?n_House_place ?n_House_name ?n_House_hearings ?n_House_tellings ?n_House_going ?n_House_times ?a1 ?l1 ?c1 ?k1 ?ld1 ?a2 ?l2 ?c2 ?k2 ?ld2 ?a3 ?l3 ?c3 ?k3 ?a4 ?l4 ?c4 ?k4 ?a5 ?l5 ?c5 ?k5 ?a6 ?l6 ?c6 ?k6 ?a7 ?l7 ?c7 ?k7 ?a8 ?l8 ?c8 ?k8 ?a9 ?l9 ?c9 ?k9 ?a10 ?l10 ?c10 ?k10 ?a11 ?i11 ?l11 ?c11 ?k11 ?a12 ?i12 ?l12 ?c12 ?k12 ?a13 ?i13 ?l13 ?c13 ?k13 ?a14 ?i14 ?l14 ?c14 ?k14 ?a15 ?i15 ?l15 ?c15 ?k15 ?a16 ?i16 ?l16 ?c16 ?k16 ?a17 ?i17 ?l17 ?c17 ?k17 ?a18 ?i18 ?l18 ?c18 ?k18 ?a19 ?i19 ?l19 ?c19 ?k19 ?a20 ?i20 ?l20 ?c20 ?k20 ?a21 ?i21 ?l21 ?c21 ?k21 ?a22 ?l22 ?c22 ?k22 ?a23 ?l23 ?c23 ?k23 ?a24 ?l24 ?c24 ?k24 ?a25 ?l25 ?c25 ?k25 ?a26 ?l26 ?c26 ?k26 ?a27 ?l27 ?c27 ?k27 ?a28 ?l28 ?c28 ?k28 ?a29 ?l29 ?c29 ?k29 ?a30 ?l30 ?c30 ?k30 ?a31 ?l31 ?c31 ?k31 ?a32 ?l32 ?c32 ?k32 ?a33 ?l33 ?c33 ?k33 ?a34 ?l34 ?c34 ?k34 ?a35 ?l35 ?c35 ?k35 ?a36 ?l36 ?c36 ?k36 ?a37 ?l37 ?c37 ?k37 ?a38 ?l38 ?c38 ?k38 ?a39 ?l39 ?c39 ?k39 ?a40 ?l40 ?c40 ?k40 ?a41 ?l41 ?c41 ?k41 ?a42 ?l42 ?c42 ?k42 ?g_NOTHING ?l_NOTHING ?le_NOTHING ?z_isinstance ?z_len ?z_int ?z_tuple ?z_range ?z_max ?z_min ?z_sorted ?z_all ?z_list ?z_str
  (case aC_House=>k_is)
  (case pg_House=>k_is)
  (case hd_House=>k_is)
  (case po_House=>k_is)
  (case sa_House=>k_is)
  (case mk_House=>k_is)
  (case kc_House=>k_is)
  (case n_House_place=>k_is)
  (case n_House_name=>k_is)
  (case n_House_hearings=>k_is)
  (case n_House_tellings=>k_is)
  (case n_House_going=>k_is)
  (case n_House_times=>k_is)
  (case a1=>k_is)
  (case l1=>k_is)
  (case c1=>k_is)
  (case k1=>k_is)
  (case ld1=>k_is)
  (case a2=>k_is)
  (case l2=>k_is)
  (case c2=>k_is)
  (case k2=>k_is)
  (case ld2=>k_is)
  (case a3=>k_is)
  (case l3=>k_is)
  (case c3=>k_is)
  (case k3=>k_is)
  (case a4=>k_is)
  (case l4=>k_is)
  (case c4=>k_is)
  (case k4=>k_is)
  (case a5=>k_is)
  (case l5=>k_is)
  (case c5=>k_is)
  (case k5=>k_is)
  (case a6=>k_is)
  (case l6=>k_is)
  (case c6=>k_is)
  (case k6=>k_is)
  (case a7=>k_is)
  (case l7=>k_is)
  (case c7=>k_is)
  (case k7=>k_is)
  (case a8=>k_is)
  (case l8=>k_is)
  (case c8=>k_is)
  (case k8=>k_is)
  (case a9=>k_is)
  (case l9=>k_is)
  (case c9=>k_is)
  (case k9=>k_is)
  (case a10=>k_is)
  (case l10=>k_is)
  (case c10=>k_is)
  (case k10=>k_is)
  (case a11=>k_is)
  (case i11=>k_is)
  (case l11=>k_is)
  (case c11=>k_is)
  (case k11=>k_is)
  (case a12=>k_is)
  (case i12=>k_is)
  (case l12=>k_is)
  (case c12=>k_is)
  (case k12=>k_is)
  (case a13=>k_is)
  (case i13=>k_is)
  (case l13=>k_is)
  (case c13=>k_is)
  (case k13=>k_is)
  (case a14=>k_is)
  (case i14=>k_is)
  (case l14=>k_is)
  (case c14=>k_is)
  (case k14=>k_is)
  (case a15=>k_is)
  (case i15=>k_is)
  (case l15=>k_is)
  (case c15=>k_is)
  (case k15=>k_is)
  (case a16=>k_is)
  (case i16=>k_is)
  (case l16=>k_is)
  (case c16=>k_is)
  (case k16=>k_is)
  (case a17=>k_is)
  (case i17=>k_is)
  (case l17=>k_is)
  (case c17=>k_is)
  (case k17=>k_is)
  (case a18=>k_is)
  (case i18=>k_is)
  (case l18=>k_is)
  (case c18=>k_is)
  (case k18=>k_is)
  (case a19=>k_is)
  (case i19=>k_is)
  (case l19=>k_is)
  (case c19=>k_is)
  (case k19=>k_is)
  (case a20=>k_is)
  (case i20=>k_is)
  (case l20=>k_is)
  (case c20=>k_is)
  (case k20=>k_is)
  (case a21=>k_is)
  (case i21=>k_is)
  (case l21=>k_is)
  (case c21=>k_is)
  (case k21=>k_is)
  (case a22=>k_is)
  (case l22=>k_is)
  (case c22=>k_is)
  (case k22=>k_is)
  (case a23=>k_is)
  (case l23=>k_is)
  (case c23=>k_is)
  (case k23=>k_is)
  (case a24=>k_is)
  (case l24=>k_is)
  (case c24=>k_is)
  (case k24=>k_is)
  (case a25=>k_is)
  (case l25=>k_is)
  (case c25=>k_is)
  (case k25=>k_is)
  (case a26=>k_is)
  (case l26=>k_is)
  (case c26=>k_is)
  (case k26=>k_is)
  (case a27=>k_is)
  (case l27=>k_is)
  (case c27=>k_is)
  (case k27=>k_is)
  (case a28=>k_is)
  (case l28=>k_is)
  (case c28=>k_is)
  (case k28=>k_is)
  (case a29=>k_is)
  (case l29=>k_is)
  (case c29=>k_is)
  (case k29=>k_is)
  (case a30=>k_is)
  (case l30=>k_is)
  (case c30=>k_is)
  (case k30=>k_is)
  (case a31=>k_is)
  (case l31=>k_is)
  (case c31=>k_is)
  (case k31=>k_is)
  (case a32=>k_is)
  (case l32=>k_is)
  (case c32=>k_is)
  (case k32=>k_is)
  (case a33=>k_is)
  (case l33=>k_is)
  (case c33=>k_is)
  (case k33=>k_is)
  (case a34=>k_is)
  (case l34=>k_is)
  (case c34=>k_is)
  (case k34=>k_is)
  (case a35=>k_is)
  (case l35=>k_is)
  (case c35=>k_is)
  (case k35=>k_is)
  (case a36=>k_is)
  (case l36=>k_is)
  (case c36=>k_is)
  (case k36=>k_is)
  (case a37=>k_is)
  (case l37=>k_is)
  (case c37=>k_is)
  (case k37=>k_is)
  (case a38=>k_is)
  (case l38=>k_is)
  (case c38=>k_is)
  (case k38=>k_is)
  (case a39=>k_is)
  (case l39=>k_is)
  (case c39=>k_is)
  (case k39=>k_is)
  (case a40=>k_is)
  (case l40=>k_is)
  (case c40=>k_is)
  (case k40=>k_is)
  (case a41=>k_is)
  (case l41=>k_is)
  (case c41=>k_is)
  (case k41=>k_is)
  (case a42=>k_is)
  (case l42=>k_is)
  (case c42=>k_is)
  (case k42=>k_is)
  (case g_NOTHING=>k_is)
  (case l_NOTHING=>k_is)
  (case le_NOTHING=>k_is)
  (case z_isinstance=>k_is)
  (case z_len=>k_is)
  (case z_int=>k_is)
  (case z_tuple=>k_is)
  (case z_range=>k_is)
  (case z_max=>k_is)
  (case z_min=>k_is)
  (case z_sorted=>k_is)
  (case z_all=>k_is)
  (case z_list=>k_is)
  (case z_str=>k_is)
