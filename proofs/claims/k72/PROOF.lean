import PyProof.Rows.All
import Wide.All
import OpenK.AllK
import Wide.FinOn
import Lean
import PyProof.EqAt
import PyProof.EqKinds
import PyProof.TupleCall
import PySem.Challenge.RW_dialyard_k72_boxes_together
set_option Elab.async false
set_option linter.all false
set_option maxRecDepth 100000
set_option maxHeartbeats 4000000
namespace L2
open PySem PySem.Spec PyProof.Rows
abbrev Key:=Sum Int Str
def keyIs:Key->Value->Bool
 | .inl k,v=>Value.isInt k v
 | .inr x,v=>Value.isStrOf x v
def keyH(w:World):Key->Int
 | .inl k=>hashInt k
 | .inr x=>hashStr w x
theorem keyIs_shape:∀{k:Key}{v:Value},keyIs k v=true->(∃i t,k=Sum.inl i/\v=Value.int i t)∨(∃x t,k=Sum.inr x/\v=Value.str x t)
 | .inl i,v,h=>by
  obtain⟨t,e⟩:=Value.isInt_shape (k:=i) (v:=v) h
  exact .inl ⟨i,t,rfl,e⟩
 | .inr x,v,h=>by
  obtain⟨t,e⟩:=Value.isStrOf_shape (x:=x) (v:=v) h
  exact .inr ⟨x,t,rfl,e⟩
theorem key_ll(a b:Int):decide ((Sum.inl a:Key)=Sum.inl b)=(a==b):=by
 by_cases e:a=b
 ·subst e;simp
 ·have h:¬ (Sum.inl a:Key)=Sum.inl b:=fun q=>e (Sum.inl.inj q)
  rw[decide_eq_false h]
  exact(beq_eq_false_iff_ne.mpr e).symm
theorem key_rr(a b:Str):decide ((Sum.inr a:Key)=Sum.inr b)=decide (a=b):=by
 by_cases e:a=b
 ·subst e;simp
 ·have h:¬ (Sum.inr a:Key)=Sum.inr b:=fun q=>e (Sum.inr.inj q)
  rw[decide_eq_false h,decide_eq_false e]
theorem key_lr(a:Int)(b:Str):decide ((Sum.inl a:Key)=Sum.inr b)=false:=decide_eq_false (fun q=>nomatch q)
theorem key_rl(a:Str)(b:Int):decide ((Sum.inr a:Key)=Sum.inl b)=false:=decide_eq_false (fun q=>nomatch q)
def mixKind(prog:Program)(w:World):PySem.KeyKind prog w Key where
 is:=keyIs
 hash:=keyH w
 inj:=fun v a b ha hb=>by
  rcases keyIs_shape ha with ⟨i,t,rfl,rfl⟩|⟨x,t,rfl,rfl⟩
  ·rcases keyIs_shape hb with ⟨j,u,rfl,e⟩|⟨y,u,rfl,e⟩
   ·injection e with e1 _;rw[e1]
   ·exact nomatch e
  ·rcases keyIs_shape hb with ⟨j,u,rfl,e⟩|⟨y,u,rfl,e⟩
   ·exact nomatch e
   ·injection e with e1 _;rw[e1]
 byValue:=fun k v h=>by
  rcases keyIs_shape h with ⟨i,t,rfl,rfl⟩|⟨x,t,rfl,rfl⟩<;>rfl
 pyHash:=fun hv h=>by
  rcases keyIs_shape hv with ⟨i,t,rfl,rfl⟩|⟨x,t,rfl,rfl⟩
  ·exact wpAny_pyHash_int h
  ·exact wpAny_pyHash_str h
 eqBool:=fun hu hv h=>by
  rcases keyIs_shape hu with ⟨i,t,rfl,rfl⟩|⟨x,t,rfl,rfl⟩
  ·rcases keyIs_shape hv with ⟨j,u,rfl,rfl⟩|⟨y,u,rfl,rfl⟩
   ·rw[key_ll]at h;exact wpAny_eqBool_int h
   ·rw[key_lr]at h;exact SeqAt.EqAt.int_str i t y u _ _ _ _ h
  ·rcases keyIs_shape hv with ⟨j,u,rfl,rfl⟩|⟨y,u,rfl,rfl⟩
   ·rw[key_rl]at h;exact SeqAt.EqAt.str_int x t j u _ _ _ _ h
   ·rw[key_rr]at h;exact wpAny_eqBool_str h
 «strs»:=fun k x t v h=>by
  rcases keyIs_shape h with ⟨i,u,rfl,e⟩|⟨y,u,rfl,e⟩
  ·exact nomatch e
  ·injection e with e1 _
   subst e1
   cases v<;>rfl
end L2
namespace L2
open PySem PySem.Spec PyProof.Rows
inductive V where
 | non|bl (b:Bool)|int (i:Int)|str (x:Str)|byt (b:Array UInt8)|flt (b:UInt64)|ref (a:Addr)|ty (n:String)
 deriving DecidableEq
def RelV:V->Value->Prop
 | .non,u=>u=Value.none
 | .bl b,u=>u=Value.bool b
 | .int i,u=>∃t,u=Value.int i t
 | .str x,u=>∃t,u=Value.str x t
 | .byt b,u=>∃t,u=Value.bytes b t
 | .flt b,u=>∃t,u=Value.float b t
 | .ref a,u=>u=Value.ref a
 | .ty n,u=>u=Value.type n
abbrev Vals:List V->List Value->Prop:=Paired RelV
theorem Vals.length{xs:List V}{us:List Value}(r:Vals xs us):xs.length=us.length:=Paired.length r
theorem Vals.get:∀{xs:List V}{us:List Value}{i:Nat}{x:V},Vals xs us->xs[i]?=some x->∃u,us[i]?=some u/\RelV x u
 | _,_,_,_,.nil,e=>by simp at e
 | _,_,0,_,.cons r _,e=>by simp at e;subst e;exact⟨_,rfl,r⟩
 | _,_,i + 1,x,.cons _ t,e=>by
  obtain⟨u,h1,h2⟩:=Vals.get (i:=i) (x:=x) t (by simpa using e)
  exact⟨u,by simpa using h1,h2⟩
theorem Vals.set{x:V}{u:Value}(r:RelV x u):∀{xs:List V}{us:List Value}(i:Nat),Vals xs us->Vals (xs.set i x) (us.set i u)
 | _,_,_,.nil=>.nil
 | _,_,0,.cons _ t=>.cons r t
 | _,_,i + 1,.cons q t=>.cons q (Vals.set r i t)
theorem Vals.append:∀{xs ys:List V}{us ws:List Value},Vals xs us->Vals ys ws->Vals (xs++ys) (us++ws)
 | _,_,_,_,.nil,s=>s
 | _,_,_,_,.cons r t,s=>.cons r (Vals.append t s)
theorem Vals.take:∀{xs:List V}{us:List Value}(n:Nat),Vals xs us->Vals (xs.take n) (us.take n)
 | _,_,0,_=>.nil
 | _,_,_ + 1,.nil=>.nil
 | _,_,n + 1,.cons r t=>.cons r (Vals.take n t)
theorem Vals.drop:∀{xs:List V}{us:List Value}(n:Nat),Vals xs us->Vals (xs.drop n) (us.drop n)
 | _,_,0,r=>r
 | _,_,_ + 1,.nil=>.nil
 | _,_,n + 1,.cons _ t=>Vals.drop n t
def RelO:Option V->Option Value->Prop
 | some v,some u=>RelV v u
 | none,none=>True
 | _,_=>False
def KV{κ:Type}:List (κ×V)->List (κ×Value)->Prop:=Paired fun (p:κ×V) (q:κ×Value)=>p.1=q.1/\RelV p.2 q.2
def kV:Key->V
 | .inl i=>.int i
 | .inr x=>.str x
inductive HO where
 | lst (xs:List V)
 | tup (xs:List V)
 | dK (kvs:List (Key×V))|dT (kvs:List (List Key×V))
 | set (S:Int->Bool) (n:Nat)
 | ins (C dx:Addr) (fs:List (Str×V))
 | own (x:Addr)
 | xd (fs:List (Str×V))
 | met (f x:Addr)
 | rng (lo hi:Int)
 | frz (o:Obj) (u:HO)
 | tbl (ps:Array Value)
 | ext (φ:Heap->Prop)
abbrev Hp:=Addr->Option HO
def upd(H:Hp)(a:Addr)(o:HO):Hp:=fun b=>if b=a then some o else H b
theorem upd_same{H:Hp}{a:Addr}{o:HO}:upd H a o a=some o:=by unfold upd;rw[if_pos rfl]
theorem upd_ne{H:Hp}{a b:Addr}{o:HO}(h:b≠a):upd H a o b=H b:=by unfold upd;rw[if_neg h]
theorem upd_upd{H:Hp}{a:Addr}{o u:HO}:upd (upd H a o) a u=upd H a u:=by
 funext b;unfold upd;split<;>rfl
theorem ne_of{H:Hp}{a b:Addr}{o u:HO}(h:H a=some o)(h':H b=some u)(d:o≠u):a≠b:=by
 intro e;subst e;rw[h]at h';exact d (Option.some.inj h')
theorem ne_of_none{H:Hp}{a b:Addr}{o:HO}(h:H a=some o)(h':H b=none):a≠b:=by
 intro e;subst e;rw[h]at h';cases h'
section
variable (P:Program) (w:World)
def ObjOk(H:Hp)(h:Heap)(a:Addr):HO->Prop
 | .lst xs=>xs.length<=sizeLine/\∃(its:List Value) (n:Nat),Vals xs its/\h.get? a=some {cls:=.type "list", data:=.seq its.toArray n}
 | .tup xs=>xs.length<=sizeLine/\∃its:List Value,Vals xs its/\IsTup h a its.toArray
 | .dK kvs=>kvs.length<=sizeLine/\(a==sysModules)=false/\∃vs,KV kvs vs/\h.DictOf (mixKind P w) a vs
 | .dT kvs=>kvs.length<=sizeLine/\(a==sysModules)=false/\∃xs:List (List Key×Addr×Value),
   Paired (fun (p:List Key×V) (q:List Key×Addr×Value)=>p.1=q.1/\H q.2.1=some (.tup (p.1.map kV))/\RelV p.2 q.2.2) kvs xs ∧
   ∃o es ep,h.get? a=some o/\o.ExactDict/\o.data=.dict es ep/\es.toList=xs.map (entryOfKey (tupleKind (mixKind P w)))/\(xs.map (·.1)).Nodup
 | .set S n=>h.SetOf (intKind P w) a S n
 | .ins C dx fs=>H dx=some (.own a)/\fs.length<=1000/\dx≠a/\h.get? a=some (PySem.W.instObj C dx) ∧
   ∃mA,h.Ns1 dx mA/\(∀f,RelO (fs.lookup f) (mA f))/\PySem.Within mA (fs.map (·.1))
 | .own _=>∃o,h.get? a=some o
 | .xd fs=>∃mA,h.Ns1 a mA/\∀f,RelO (fs.lookup f) (mA f)
 | .rng lo hi=>∃t u v,h.get? a=some {cls:=.type "range", data:=.fields #[.int lo t,.int hi u,.int 1 v]}
 | .frz o u=>h.get? a=some o/\ObjOk H h a u
 | .tbl ps=>h.get? a=some {cls:=.none,data:=.fields ps}
 | .met f x=>h.get? a=some (PySem.W.methodObj (.ref f) (.ref x))
 | .ext φ=>φ h/\(∃o,h.get? a=some o)/\∀h1 h2:Heap,φ h1->(∀o,h1.get? a=some o->h2.get? a=some o)->φ h2
def HOk(H:Hp)(h:Heap):Prop:=∀a o,H a=some o->ObjOk P w H h a o
end
section
variable {P:Program} {w:World} {H H':Hp} {h h':Heap} {a:Addr} {o:HO}
theorem ObjOk.lt(x:ObjOk P w H h a o):a < h.objs.size:=by
 cases o with
 | lst xs=>obtain⟨_,_,_,_,e⟩:=x;exact Heap.lt_size e
 | tup xs=>obtain⟨_,_,_,p⟩:=x;exact p.lt
 | dK kvs=>obtain⟨_,_,_,_,o,_,_,e,_⟩:=x;exact Heap.lt_size e
 | dT kvs=>obtain⟨_,_,_,_,o,_,_,e,_⟩:=x;exact Heap.lt_size e
 | set S n=>obtain⟨o,_,_,_,e,_⟩:=x;exact Heap.lt_size e
 | ins C dx fs=>obtain⟨_,_,_,e,_⟩:=x;exact Heap.lt_size e
 | own y=>obtain⟨_,e⟩:=x;exact Heap.lt_size e
 | xd fs=>obtain⟨_,⟨_,_,_,e,_⟩,_⟩:=x;exact Heap.lt_size e
 | rng lo hi=>obtain⟨_,_,_,e⟩:=x;exact Heap.lt_size e
 | frz ob u=>obtain⟨e,_⟩:=x;exact Heap.lt_size e
 | tbl ps=>exact Heap.lt_size (show h.get? a=some _ from x)
 | met f y=>exact Heap.lt_size (show h.get? a=some _ from x)
 | ext φ=>obtain⟨_,⟨_,e⟩,_⟩:=x;exact Heap.lt_size e
theorem Paired.mapP{α β:Type}{F G:α->β->Prop}:∀{l₁:List α}{l₂:List β},Paired F l₁ l₂->(∀a b,F a b->G a b)->Paired G l₁ l₂
 | _,_,.nil,_=>.nil
 | _,_,.cons r t,f=>.cons (f _ _ r) (Paired.mapP t f)
theorem ObjOk.stay(x:ObjOk P w H h a o)(k:∀b u,(b=a∨H b=some (.own a))->h.get? b=some u->h'.get? b=some u)
  (ho:∀b,H b=some (.own a)->H' b=some (.own a)) (ht:∀b xs,H b=some (.tup xs)->H' b=some (.tup xs)):ObjOk P w H' h' a o:=by
 induction o with
 | lst xs=>obtain⟨z,its,n,r,e⟩:=x;exact⟨z,its,n,r,k _ _ (.inl rfl) e⟩
 | tup xs=>obtain⟨z,its,r,ob,e,c⟩:=x;exact⟨z,its,r,ob,k _ _ (.inl rfl) e,c⟩
 | dK kvs=>obtain⟨z,y,vs,r,ob,es,ep,e,c⟩:=x;exact⟨z,y,vs,r,ob,es,ep,k _ _ (.inl rfl) e,c⟩
 | dT kvs =>
  obtain⟨z,y,xs,r,ob,es,ep,e,c⟩:=x
  exact⟨z,y,xs,Paired.mapP r fun p q z=>⟨z.1,ht _ _ z.2.1,z.2.2⟩,ob,es,ep,k _ _ (.inl rfl) e,c⟩
 | set S n=>obtain⟨ob,es,ep,t,e,c⟩:=x;exact⟨ob,es,ep,t,k _ _ (.inl rfl) e,c⟩
 | ins C dx fs =>
  obtain⟨d,z,ne,e,mA,⟨od,es,ep,e2,c⟩,r⟩:=x
  exact⟨ho _ d,z,ne,k _ _ (.inl rfl) e,mA,⟨od,es,ep,k _ _ (.inr d) e2,c⟩,r⟩
 | own y=>obtain⟨ob,e⟩:=x;exact⟨ob,k _ _ (.inl rfl) e⟩
 | xd fs=>obtain⟨mA,⟨od,es,ep,e,c⟩,r⟩:=x;exact⟨mA,⟨od,es,ep,k _ _ (.inl rfl) e,c⟩,r⟩
 | rng lo hi=>obtain⟨t,u,v,e⟩:=x;exact⟨t,u,v,k _ _ (.inl rfl) e⟩
 | frz ob u ih=>obtain⟨e,q⟩:=x;exact⟨k _ _ (.inl rfl) e,ih q⟩
 | tbl ps =>
  have e:h.get? a=some {cls:=.none,data:=.fields ps}:=x
  show h'.get? a=some {cls:=.none,data:=.fields ps}
  exact k a _ (.inl rfl) e
 | met f y =>
  have e:h.get? a=some (PySem.W.methodObj (.ref f) (.ref y)):=x
  show h'.get? a=some (PySem.W.methodObj (.ref f) (.ref y))
  exact k a _ (.inl rfl) e
 | ext φ=>obtain⟨p,⟨o,e⟩,st⟩:=x;exact⟨st _ _ p fun o q=>k _ _ (.inl rfl) q,⟨o,k _ _ (.inl rfl) e⟩,st⟩
theorem HOk.lt(x:HOk P w H h)(e:H a=some o):a < h.objs.size:=(x a o e).lt
theorem HOk.fresh(x:HOk P w H h)(e:h.objs.size<=a):H a=none:=by
 cases q:H a with
 | none=>rfl
 | some u=>exact absurd (Nat.lt_of_lt_of_le (x.lt q) e) (Nat.lt_irrefl _)
theorem HOk.kept(x:HOk P w H h)(k:∀b u,h.get? b=some u->h'.get? b=some u):HOk P w H h':=fun a o e =>
 (x a o e).stay (fun b u _ q=>k b u q) (fun _ q=>q) fun _ _ q=>q
theorem HOk.laid(x:HOk P w H h)(k:∀b u,h.get? b=some u->h'.get? b=some u)(hp:h.objs.size<=a)(new:ObjOk P w (upd H a o) h' a o):HOk P w (upd H a o) h':=fun b u e=>by
 have hn:=x.fresh hp
 by_cases hb:b=a
 ·subst hb;rw[upd_same]at e;cases e;exact new
 ·rw[upd_ne hb]at e
  exact(x b u e).stay (fun c v _ q=>k c v q) (fun c q=>by rw[upd_ne (ne_of_none q hn)];exact q) fun c xs q=>by rw[upd_ne (ne_of_none q hn)];exact q
end
def Rd(H:Hp)(a:Addr)(u:HO):Prop:=H a=some u∨∃o,H a=some (.frz o u)
theorem Rd.of{H:Hp}{a:Addr}{u:HO}(h:H a=some u):Rd H a u:=.inl h
theorem Rd.ok{P:Program}{w:World}{H:Hp}{h:Heap}{a:Addr}{u:HO}(r:Rd H a u)(x:HOk P w H h):ObjOk P w H h a u:=by
 rcases r with r|⟨o,r⟩
 ·exact x a u r
 ·obtain⟨_,q⟩:=x a _ r
  exact q
def Mut:Option HO->Prop
 | some (.lst _)=>True
 | some (.dK _)=>True
 | some (.dT _)=>True
 | some (.set _ _)=>True
 | some (.ins _ _ _)=>True
 | some (.ext _)=>True
 | _=>False
section
variable {P:Program} {w:World} {H:Hp} {h h':Heap} {x e:Addr} {o':HO}
theorem HOk.write(ok:HOk P w H h)(mu:Mut (H x))(he:e=x∨H e=some (.own x))(k:∀b u,b≠e->h.get? b=some u->h'.get? b=some u)(heo:∃u,h'.get? e=some u)
  (new:ObjOk P w (upd H x o') h' x o'):HOk P w (upd H x o') h':=fun b u q=>by
 have nown:∀c y,H c=some (.own y)->c≠x:=fun c y r z=>by subst z;rw[r]at mu;exact mu
 have ntup:∀c xs,H c=some (.tup xs)->c≠x:=fun c xs r z=>by subst z;rw[r]at mu;exact mu
 by_cases hb:b=x
 ·subst hb;rw[upd_same]at q;cases q;exact new
 ·rw[upd_ne hb]at q
  by_cases hbe:b=e
  ·have q':H b=some (.own x):=by
    rcases he with z|z
    ·exact absurd (hbe.trans z) hb
    ·rw[hbe];exact z
   rw[q]at q';cases q'
   obtain⟨v,hv⟩:=heo
   exact⟨v,by rw[hbe];exact hv⟩
  ·refine(ok b u q).stay (fun c v hc r=>k c v ?_ r) (fun c r=>by rw[upd_ne (nown c b r)];exact r) fun c xs r=>by rw[upd_ne (ntup c xs r)];exact r
   rcases hc with rfl|hc
   ·exact hbe
   ·rintro rfl
    rcases he with z|z
    ·exact nown c b hc z
    ·rw[hc]at z;cases z;exact hb rfl
end
structure Un(fs ex:List Addr)(H H':Hp)(h h':Heap):Prop where
 keep:∀b o,h.get? b=some o->H b=none->b∉fs->b∉ex->h'.get? b=some o
 slot:∀b o,h.get? b=some o->H b=none->b∈fs->b∉ex->∃sl,h'.get? b=some {o with slots:=sl}
 free:∀b o,h.get? b=some o->H b=none->b∉ex->H' b=none
 there:∀b o,h.get? b=some o->b∉ex->∃o',h'.get? b=some o'
 tups:∀b xs,H b=some (.tup xs)->H' b=some (.tup xs)
 frzs:∀b o u,H b=some (.frz o u)->H' b=some (.frz o u)
 tbls:∀b ps,H b=some (.tbl ps)->∃more,H' b=some (.tbl (ps++more))
section
variable {fs fs' ex ex':List Addr} {H H1 H2:Hp} {h h1 h2 h':Heap} {a x e:Addr} {o:HO}
theorem Un.any(u:Un fs ex H H1 h h1){b:Addr}{ob:Obj}(q:h.get? b=some ob)(n:H b=none)(hx:b∉ex):∃sl,h1.get? b=some {ob with slots:=sl}:=by
 by_cases hb:b∈fs
 ·exact u.slot b ob q n hb hx
 ·exact⟨ob.slots,u.keep b ob q n hb hx⟩
theorem Un.trans(a:Un fs ex H H1 h h1)(b:Un fs ex H1 H2 h1 h2):Un fs ex H H2 h h2 where
 keep:=fun c ob q n hc hx=>b.keep c ob (a.keep c ob q n hc hx) (a.free c ob q n hx) hc hx
 slot:=fun c ob q n hc hx=>by
  obtain⟨sl,e1⟩:=a.slot c ob q n hc hx
  obtain⟨sl',e2⟩:=b.slot c _ e1 (a.free c ob q n hx) hc hx
  exact⟨sl',e2⟩
 free:=fun c ob q n hx=>by
  obtain⟨o',e1⟩:=a.there c ob q hx
  exact b.free c o' e1 (a.free c ob q n hx) hx
 there:=fun c ob q hx=>by
  obtain⟨o',e1⟩:=a.there c ob q hx
  exact b.there c o' e1 hx
 tups:=fun c xs q=>b.tups c xs (a.tups c xs q)
 frzs:=fun c ob xs q=>b.frzs c ob xs (a.frzs c ob xs q)
 tbls:=fun c ps q=>by
  obtain⟨m1,e1⟩:=a.tbls c ps q
  obtain⟨m2,e2⟩:=b.tbls c _ e1
  exact⟨m1++m2,by rw[e2,Array.append_assoc]⟩
theorem Un.kept(k:∀b u,h.get? b=some u->h'.get? b=some u):Un fs ex H H h h' :=
 ⟨fun b ob q _ _ _=>k b ob q,fun b ob q _ _ _=>⟨ob.slots,k b ob q⟩,fun _ _ _ n _=>n,fun b ob q _=>⟨ob,k b ob q⟩,fun _ _ q=>q,fun _ _ _ q=>q,fun _ ps q=>⟨#[],by rw[q];simp⟩⟩
theorem Un.refl:Un fs ex H H h h:=Un.kept fun _ _ q=>q
theorem Un.laid(k:∀b u,h.get? b=some u->h'.get? b=some u)(hp:h.objs.size<=a)(hn:H a=none):Un fs ex H (upd H a o) h h' where
 keep:=fun b u q _ _ _=>k b u q
 slot:=fun b u q _ _ _=>⟨u.slots,k b u q⟩
 free:=fun b u q n _=>by rw[upd_ne (Nat.ne_of_lt (Nat.lt_of_lt_of_le (Heap.lt_size q) hp))];exact n
 there:=fun b u q _=>⟨u,k b u q⟩
 tups:=fun b xs q=>by rw[upd_ne (ne_of_none q hn)];exact q
 frzs:=fun b u xs q=>by rw[upd_ne (ne_of_none q hn)];exact q
 tbls:=fun b ps q=>⟨#[],by rw[upd_ne (ne_of_none q hn),q];simp⟩
theorem Un.write(mu:Mut (H x))(he:e=x∨H e=some (.own x))(k:∀b u,b≠e->h.get? b=some u->h'.get? b=some u)(heo:∃u,h'.get? e=some u):Un fs ex H (upd H x o) h h':=by
 have hx:∀b,H b=none->b≠x:=fun b n z=>by subst z;rw[n]at mu;exact mu
 have hb:∀b,H b=none->b≠e:=fun b n z=>by
  subst z
  rcases he with r|r
  ·exact hx b n r
  ·rw[n]at r;cases r
 have hm:∀b u,H b=some u->¬ Mut (some u)->b≠x:=fun b u q nm z=>by subst z;rw[q]at mu;exact nm mu
 refine⟨fun b u q n _ _=>k b u (hb b n) q,fun b u q n _ _=>⟨u.slots,k b u (hb b n) q⟩,fun b u q n _=>by rw[upd_ne (hx b n)];exact n,fun b u q _=>?_,
  fun b xs q=>by rw[upd_ne (hm b _ q fun z=>z)];exact q,fun b u xs q=>by rw[upd_ne (hm b _ q fun z=>z)];exact q,fun b ps q=>⟨#[],by rw[upd_ne (hm b _ q fun z=>z),q];simp⟩⟩
 by_cases hbe:b=e
 ·subst hbe;exact heo
 ·exact⟨u,k b u hbe q⟩
theorem Un.mono(u:Un fs ex H H1 h h1)(hs:∀b∈fs,b∈fs')(hx:∀b∈ex,b∈ex'):Un fs' ex' H H1 h h1 :=
 ⟨fun b ob q n hb he=>u.keep b ob q n (fun z=>hb (hs b z)) fun z=>he (hx b z),fun _ _ q n _ he=>u.any q n fun z=>he (hx _ z),fun b ob q n he=>u.free b ob q n fun z=>he (hx b z),fun b ob q he=>u.there b ob q fun z=>he (hx b z),u.tups,u.frzs,u.tbls⟩
end
def trk(h:Heap)(H:Hp):List Addr:=(List.range h.objs.size).filter fun a=>(H a).isSome
def hidT(h:Heap)(H:Hp):Heap:=PySem.W.hideAll h (trk h H)
theorem hidT_size(h:Heap)(H:Hp):(hidT h H).objs.size=h.objs.size:=PySem.W.hideAll_size _ _
theorem hidT_get{h:Heap}{H:Hp}{b:Addr}{o:Obj}(e:h.get? b=some o)(n:H b=none):(hidT h H).get? b=some o :=
 PySem.W.hideAll_get _ e fun hm=>by
  have q:(H b).isSome=true:=(List.mem_filter.mp hm).2
  rw[n]at q;simp at q
theorem of_hidT{h:Heap}{H:Hp}{b:Addr}{o:Obj}(e:(hidT h H).get? b=some o):h.get? b=some o/\H b=none:=by
 have e':h.get? b=some o:=PySem.W.of_hideAll (trk h H) e
 refine⟨e',?_⟩
 cases q:H b with
 | none=>rfl
 | some x =>
  have hm:b∈trk h H:=List.mem_filter.mpr ⟨List.mem_range.mpr (Heap.lt_size e'),by simp[q]⟩
  have z:(hidT h H).get? b=none:=PySem.W.hideAll_none (trk h H) hm
  rw[z]at e;cases e
def allNews(g h:Heap)(L:Addr):List (Addr×Obj):=(List.range h.objs.size).filterMap fun a=>if a=L∨(g.get? a).isSome=true then none else (h.get? a).map fun o=>(a,o)
def rest(g h:Heap)(L d:Addr):List (Addr×Obj):=(allNews g h L).filter fun p=>decide (p.1≠d)
end L2
namespace L2
open PySem PySem.Spec PyProof.Rows
structure Mod(K:PySem.W.Frag)(mg:Str->Option Value)(base:Heap):Prop where
 kin:K.In base
 glob:base.Ns mainGlobals mg
 blt:∃mb,base.Ns builtinsNs mb/\∀x:Str,x ≠ "__name__" -> mb x=bootBuiltins x
 nolimit:base.NoLimit
structure Cx where
 prog:Program
 w:World
 K:PySem.W.Frag
 mg:Str->Option Value
 base:Heap
 A:Around
 N:List Str
 s₀:Shared
 H₀:Hp
 env:Env
 outer:List Env
 stack:List Env
 ex:List Addr
 fn:Str->Bool
 calm:Bool
 pn:List (Addr×Obj)
 xe:Value->Shared->Prop
def frs(l:List Env):List Addr:=l.filterMap (·.frame)
abbrev Cx.fs(X:Cx):List Addr:=frs X.outer
def Vis(sc:Scope)(x:Str):Prop:=sc.names.lookup x=some .local∨sc.names.lookup x=some .cell∨sc.names.lookup x=some .free
def Loc(sc:Scope)(x:Str):Prop:=sc.names.lookup x=some .local∨sc.names.lookup x=some .cell
def Look(env:Env)(h:Heap)(m:Str->Option Value)(x:Str)(u:Value):Prop :=
 (env.kindOf x=some .local/\m x=some u)∨((env.kindOf x=some .cell∨env.kindOf x=some .free)/\∃c,env.cells.lookup x=some c/\h.IsCell c (some u))
structure Cx.Ok(X:Cx):Prop where
 mod:Mod X.K X.mg X.base
 kind:X.env.scope.kind=.function
 glob:X.env.globals=mainGlobals
 blt:X.env.builtins=builtinsNs
 above:X.s₀.heap.objs.size<=X.env.locals
 inj:∀x y c,X.env.cells.lookup x=some c->X.env.cells.lookup y=some c->x=y
 has:∀x,(X.env.kindOf x=some .cell∨X.env.kindOf x=some .free)->∃c,X.env.cells.lookup x=some c
 cab:∀x c,X.fn x=true->X.env.cells.lookup x=some c->X.s₀.heap.objs.size<=c
 hd:X.calm=true->X.A.handled=none
 frames:X.A.frames=some X.stack
 stk:X.stack=X.outer∨(X.stack=X.env::X.outer/\X.env.frame=some X.env.locals)
 exf:∀b∈X.ex,b≠X.env.locals/\∀x c,X.env.cells.lookup x=some c->c≠b
 bs:∀b o,X.base.get? b=some o->X.s₀.heap.get? b=some o/\X.H₀ b=none
 bsz:X.base.objs.size<=X.s₀.heap.objs.size
 noex:∀b o,X.base.get? b=some o->b∉X.ex
 exfs:∀b∈X.ex,b∉X.fs
 funs:X.s₀.heap.FunFrames X.base X.outer
 frf:∀b∈X.fs,X.H₀ b=none
structure Inv(X:Cx)(pins:List (Addr×Obj))(σ:List (Option V))(H:Hp)(s:Shared):Prop where
 ok:X.Ok
 os:s.os=X.s₀.os
 bare:AllBare s.gens
 base:Un X.fs X.ex X.H₀ H X.s₀.heap s.heap
 loc:∃m,s.heap.Ns X.env.locals m/\∀(i:Nat)(x:Str)(v:V),X.N[i]?=some x->σ[i]?=some (some v)->Vis X.env.scope x->∃u,RelV v u/\Look X.env s.heap m x u
 cell:∀x c,X.env.cells.lookup x=some c->∃v,s.heap.IsCell c v
 free:H X.env.locals=none
 freeC:∀x c,X.env.cells.lookup x=some c->H c=none
 pin:∀p∈X.pn++pins,s.heap.get? p.1=some p.2/\H p.1=none/\p.1≠X.env.locals/\p.1∉X.fs/\∀v,p.2.data ≠ .cell v
 hok:HOk X.prog X.w H s.heap
 len:σ.length=X.N.length
section
variable {X:Cx} {pins:List (Addr×Obj)} {σ:List (Option V)} {H H':Hp} {s:Shared} {h':Heap}
theorem Cx.Ok.nofr(ok:X.Ok){b:Addr}{o:Obj}(e:X.base.get? b=some o):b∉X.fs:=fun hb=>by
 have:=(ok.funs.mem hb).1
 rw[e]at this;cases this
theorem Inv.bs(I:Inv X pins σ H s):∀b o,X.base.get? b=some o->s.heap.get? b=some o/\H b=none:=fun b o e =>
 ⟨I.base.keep b o (I.ok.bs b o e).1 (I.ok.bs b o e).2 (I.ok.nofr e) (I.ok.noex b o e),I.base.free b o (I.ok.bs b o e).1 (I.ok.bs b o e).2 (I.ok.noex b o e)⟩
theorem Inv.bk(I:Inv X pins σ H s):∀b o,X.base.get? b=some o->s.heap.get? b=some o:=fun b o e=>(I.bs b o e).1
theorem Inv.mod(I:Inv X pins σ H s):Mod X.K X.mg X.base:=I.ok.mod
theorem Inv.kIn(I:Inv X pins σ H s):X.K.In s.heap:=I.ok.mod.kin.keeps I.bk
theorem Inv.nolimit(I:Inv X pins σ H s):s.heap.NoLimit:=I.ok.mod.nolimit.keeps I.bk
theorem Inv.lt(I:Inv X pins σ H s):X.env.locals < s.heap.objs.size:=let ⟨_,hn,_⟩:=I.loc;hn.lt
theorem Inv.sz(I:Inv X pins σ H s):X.s₀.heap.objs.size<=s.heap.objs.size:=Nat.le_trans I.ok.above (Nat.le_of_lt I.lt)
theorem Inv.nofs(I:Inv X pins σ H s){a:Addr}(h:s.heap.objs.size<=a):a∉X.fs:=fun hb=>by
 obtain⟨_,o,ho,_⟩:=I.ok.funs.mem hb
 exact absurd (Nat.lt_of_lt_of_le (Heap.lt_size ho) (Nat.le_trans I.sz h)) (Nat.lt_irrefl _)
theorem Inv.cne(I:Inv X pins σ H s):∀x c,X.env.cells.lookup x=some c->c≠X.env.locals:=fun x c e z=>by
 obtain⟨v,o,ho,hd⟩:=I.cell x c e
 obtain⟨m,⟨o',es,ep,ho',hd',_⟩,_⟩:=I.loc
 rw[z,ho']at ho;cases ho;rw[hd']at hd;cases hd
theorem Inv.funs(I:Inv X pins σ H s):s.heap.FunFrames X.base X.outer:=by
 have all:∀(l:List Env),(∀b∈frs l,b∈X.fs)->X.s₀.heap.FunFrames X.base l->s.heap.FunFrames X.base l:=by
  intro l
  induction l with
  | nil=>intro _ _;trivial
  | cons env r ih =>
   intro hs hl
   obtain⟨hk,⟨L,o,hf,hn,ho,hd⟩,hr⟩:=hl
   have hL:L∈X.fs:=hs L (by unfold frs;rw[List.filterMap_cons,hf];exact List.mem_cons_self)
   obtain⟨sl,e⟩:=I.base.slot L o ho (I.ok.frf L hL) hL fun z=>I.ok.exfs L z hL
   exact⟨hk,⟨L,_,hf,hn,e,hd⟩,ih (fun b hb=>hs b (by unfold frs;rw[List.filterMap_cons,hf];exact List.mem_cons_of_mem _ hb)) hr⟩
 exact all X.outer (fun _ hb=>hb) I.ok.funs
theorem Inv.stack(I:Inv X pins σ H s):s.heap.FunFrames X.base X.stack:=by
 rcases I.ok.stk with e|⟨e,hf⟩
 ·rw[e];exact I.funs
 ·rw[e]
  obtain⟨m,hn,_⟩:=I.loc
  refine .cons (by rw[I.ok.kind];decide) hf hn ?_ I.funs
  exact Heap.get?_none_of_le (Nat.le_trans I.ok.bsz I.ok.above)
theorem Inv.stkSub(I:Inv X pins σ H s):∀b∈frs X.stack,b∈X.env.locals::X.fs:=fun b hb=>by
 rcases I.ok.stk with e|⟨e,hf⟩
 ·rw[e]at hb;exact List.mem_cons_of_mem _ hb
 ·rw[e]at hb
  unfold frs at hb
  rw[List.filterMap_cons,hf]at hb
  exact hb
theorem Inv.stkFree(I:Inv X pins σ H s):∀b∈frs X.stack,H b=none:=fun b hb=>by
 rcases List.mem_cons.mp (I.stkSub b hb) with e|hb
 ·rw[e];exact I.free
 ·obtain⟨_,o,ho,_⟩:=I.ok.funs.mem hb
  exact I.base.free b o ho (I.ok.frf b hb) fun z=>I.ok.exfs b z hb
theorem Inv.step{g':Array GenState}{t':Nat}{d':Drawn}{ch:List Addr}(I:Inv X pins σ H s)
  (hch:∀b∈ch,(b∈X.ex∨X.s₀.heap.objs.size<=b)/\b≠X.env.locals/\(∀x c,X.env.cells.lookup x=some c->c≠b)/\∀p∈X.pn++pins,p.1≠b)
  (keep:∀b o,b≠X.env.locals->b∉X.fs->b∉ch->s.heap.get? b=some o->H b=none->h'.get? b=some o)
  (slot:∀b o,b≠X.env.locals->b∈X.fs->b∉ch->s.heap.get? b=some o->H b=none->∃sl,h'.get? b=some {o with slots:=sl}) (free:∀b o,b∉ch->s.heap.get? b=some o->H b=none->H' b=none)
  (there:∀b o,b∉ch->s.heap.get? b=some o->∃o',h'.get? b=some o')
  (tups:∀b xs,H b=some (.tup xs)->H' b=some (.tup xs)) (frzs:∀b o u,H b=some (.frz o u)->H' b=some (.frz o u)) (tbls:∀b ps,H b=some (.tbl ps)->∃more,H' b=some (.tbl (ps++more)))
  (ns:∀m,s.heap.Ns X.env.locals m->h'.Ns X.env.locals m) (hok:HOk X.prog X.w H' h') (hg:AllBare g') :
  Inv X pins σ H' {s with heap:=h',gens:=g',drawn:=d',toks:=t' }:=by
 have neL:∀b o,X.s₀.heap.get? b=some o->b≠X.env.locals:=fun b o e=>Nat.ne_of_lt (Nat.lt_of_lt_of_le (Heap.lt_size e) I.ok.above)
 have neC:∀b o,X.s₀.heap.get? b=some o->b∉X.ex->b∉ch:=fun b o e hx hb=>by
  rcases (hch b hb).1 with z|z
  ·exact hx z
  ·exact absurd (Nat.lt_of_lt_of_le (Heap.lt_size e) z) (Nat.lt_irrefl _)
 have cellK:∀x c,X.env.cells.lookup x=some c->∀v,s.heap.IsCell c v->h'.IsCell c v:=fun x c e v ⟨o,ho,hd⟩=>by
  have nch:c∉ch:=fun z=>(hch c z).2.2.1 x c e rfl
  by_cases hc:c∈X.fs
  ·obtain⟨sl,q⟩:=slot c o (I.cne x c e) hc nch ho (I.freeC x c e)
   exact⟨_,q,hd⟩
  ·exact⟨o,keep c o (I.cne x c e) hc nch ho (I.freeC x c e),hd⟩
 refine⟨I.ok,I.os,hg,⟨fun b o e n hb hx=>?_,fun b o e n hb hx=>?_,fun b o e n hx=>?_,fun b o e hx=>?_,fun b xs e=>tups b xs (I.base.tups b xs e),fun b o xs e=>frzs b o xs (I.base.frzs b o xs e),fun b ps e=>?_⟩,?_,fun x c e=>?_,?_,fun x c e=>?_,fun p hp=>?_,hok,I.len⟩
 ·exact keep b o (neL b o e) hb (neC b o e hx) (I.base.keep b o e n hb hx) (I.base.free b o e n hx)
 ·obtain⟨sl,e1⟩:=I.base.slot b o e n hb hx
  obtain⟨sl',e2⟩:=slot b _ (neL b o e) hb (neC b o e hx) e1 (I.base.free b o e n hx)
  exact⟨sl',e2⟩
 ·obtain⟨o',e1⟩:=I.base.there b o e hx
  exact free b o' (neC b o e hx) e1 (I.base.free b o e n hx)
 ·obtain⟨o',e1⟩:=I.base.there b o e hx
  exact there b o' (neC b o e hx) e1
 ·obtain⟨m1,e1⟩:=I.base.tbls b ps e
  obtain⟨m2,e2⟩:=tbls b _ e1
  exact⟨m1++m2,by rw[e2,Array.append_assoc]⟩
 ·obtain⟨m,hn,hl⟩:=I.loc
  refine⟨m,ns m hn,fun i x v e1 e2 e3=>?_⟩
  obtain⟨u,r,l⟩:=hl i x v e1 e2 e3
  refine⟨u,r,?_⟩
  rcases l with l|⟨k,c,e,z⟩
  ·exact .inl l
  ·exact .inr ⟨k,c,e,cellK x c e _ z⟩
 ·obtain⟨v,z⟩:=I.cell x c e
  exact⟨v,cellK x c e v z⟩
 ·obtain⟨m,⟨o,_,_,ho,_⟩,_⟩:=I.loc
  exact free _ o (fun z=>(hch _ z).2.1 rfl) ho I.free
 ·obtain⟨v,o,ho,hd⟩:=I.cell x c e
  exact free c o (fun z=>(hch c z).2.2.1 x c e rfl) ho (I.freeC x c e)
 ·obtain⟨e,n,ne,nf,d⟩:=I.pin p hp
  have nch:p.1∉ch:=fun z=>(hch p.1 z).2.2.2 p hp rfl
  exact⟨keep p.1 p.2 ne nf nch e n,free p.1 p.2 nch e n,ne,nf,d⟩
theorem Inv.un{t':Nat}(I:Inv X pins σ H s)(u:Un X.fs [] H H' s.heap h')(hok:HOk X.prog X.w H' h'):Inv X pins σ H' {s with heap:=h',toks:=t' }:=by
 obtain⟨m,⟨o,es,ep,ho,r⟩,_⟩:=id I.loc
 obtain⟨sl,hL⟩:=u.any ho I.free (by simp)
 exact I.step (g':=s.gens) (d':=s.drawn) (ch:=[]) (fun _ z=>nomatch z) (fun b o _ hb _ e n=>u.keep b o e n hb (by simp)) (fun b o _ hb _ e n=>u.slot b o e n hb (by simp)) (fun b o _ e n=>u.free b o e n (by simp)) (fun b o _ e=>u.there b o e (by simp)) u.tups u.frzs u.tbls (fun m' hm=>by
  obtain⟨o',es',ep',ho',r'⟩:=hm
  rw[ho]at ho';cases ho'
  exact⟨_,es',ep',hL,r'⟩) hok I.bare
theorem Inv.call{g':Array GenState}{t':Nat}{d':Drawn}{ch:List Addr}(I:Inv X pins σ H s)(u:Un (frs X.stack) ch H H' s.heap h')(hok:HOk X.prog X.w H' h')(hg:AllBare g')
  (hch:∀b∈ch,(b∈X.ex∨X.s₀.heap.objs.size<=b)/\b≠X.env.locals/\(∀x c,X.env.cells.lookup x=some c->c≠b)/\∀p∈X.pn++pins,p.1≠b) :
  Inv X pins σ H' {s with heap:=h',gens:=g',drawn:=d',toks:=t' }:=by
 obtain⟨m,⟨o,es,ep,ho,r⟩,_⟩:=id I.loc
 obtain⟨sl,hL⟩:=u.any ho I.free fun z=>(hch _ z).2.1 rfl
 exact I.step (ch:=ch) hch (fun b o hL hb hc e n=>u.keep b o e n (fun z=>(List.mem_cons.mp (I.stkSub b z)).elim hL hb) hc) (fun b o _ _ hc e n=>u.any e n hc) (fun b o hc e n=>u.free b o e n hc) (fun b o hc e=>u.there b o e hc) u.tups u.frzs u.tbls (fun m' hm=>by
  obtain⟨o',es',ep',ho',r'⟩:=hm
  rw[ho]at ho';cases ho'
  exact⟨_,es',ep',hL,r'⟩) hok hg
theorem Inv.turned{t':Nat}{it:Addr}(I:Inv X pins σ H s)(k:∀b o,b≠it->s.heap.get? b=some o->h'.get? b=some o)(hn:H it=none)(hL:it≠X.env.locals)
  (h1:it∈X.ex∨X.s₀.heap.objs.size<=it) (h2:∀x c,X.env.cells.lookup x=some c->c≠it) (h3:∀p∈X.pn++pins,p.1≠it):Inv X pins σ H {s with heap:=h',toks:=t' }:=by
 have nit:∀b u,H b=some u->b≠it:=fun b u e z=>by rw[z,hn]at e;cases e
 refine I.step (g':=s.gens) (d':=s.drawn) (ch:=[it]) (fun b hb=>?_) (fun b o _ _ hc e _=>k b o (fun z=>hc (by simp[z])) e) (fun b o _ _ hc e _=>⟨o.slots,k b o (fun z=>hc (by simp[z])) e⟩) (fun _ _ _ _ n=>n)
  (fun b o hc e=>⟨o,k b o (fun z=>hc (by simp[z])) e⟩) (fun _ _ e=>e) (fun _ _ _ e=>e) (fun b ps e=>⟨#[],by rw[e];simp⟩) (fun m hm=>?_) (fun b u e=>?_) I.bare
 ·have e:b=it:=by simpa using hb
  subst e
  exact⟨h1,hL,h2,h3⟩
 ·obtain⟨o,es,ep,ho,r⟩:=hm
  exact⟨o,es,ep,k _ o (Ne.symm hL) ho,r⟩
 ·refine(I.hok b u e).stay (fun c v hc q=>k c v ?_ q) (fun _ q=>q) fun _ _ q=>q
  rcases hc with z|z
  ·rw[z];exact nit b u e
  ·exact nit c _ z
theorem Inv.tok(I:Inv X pins σ H s)(t:Nat):Inv X pins σ H {s with toks:=t}:=I.un (h':=s.heap) (t':=t) Un.refl I.hok
theorem Inv.kept{t':Nat}(I:Inv X pins σ H s)(k:∀b u,s.heap.get? b=some u->h'.get? b=some u):Inv X pins σ H {s with heap:=h',toks:=t' }:=I.un (Un.kept k) (I.hok.kept k)
theorem Inv.laid{a:Addr}{o:HO}{t':Nat}(I:Inv X pins σ H s)(k:∀b u,s.heap.get? b=some u->h'.get? b=some u)(hp:s.heap.objs.size<=a)(new:ObjOk X.prog X.w (upd H a o) h' a o) :
  Inv X pins σ (upd H a o) {s with heap:=h',toks:=t' }:=I.un (Un.laid k hp (I.hok.fresh hp)) (I.hok.laid k hp new)
theorem Inv.write{x e:Addr}{o:HO}{t':Nat}(I:Inv X pins σ H s)(mu:Mut (H x))(he:e=x∨H e=some (.own x))(k:∀b u,b≠e->s.heap.get? b=some u->h'.get? b=some u)(heo:∃u,h'.get? e=some u)
  (new:ObjOk X.prog X.w (upd H x o) h' x o):Inv X pins σ (upd H x o) {s with heap:=h',toks:=t' }:=I.un (Un.write mu he k heo) (I.hok.write mu he k heo new)
theorem Inv.pins_of{pins':List (Addr×Obj)}(I:Inv X pins σ H s)(h:∀p∈pins',s.heap.get? p.1=some p.2/\H p.1=none/\p.1≠X.env.locals/\p.1∉X.fs/\∀v,p.2.data ≠ .cell v):Inv X pins' σ H s :=
 ⟨I.ok,I.os,I.bare,I.base,I.loc,I.cell,I.free,I.freeC,fun p hp=>(List.mem_append.mp hp).elim (fun z=>I.pin p (List.mem_append_left _ z)) (h p),I.hok,I.len⟩
theorem nodup_ix{N:List Str}(hN:N.Nodup){i j:Nat}{x:Str}(a:N[i]?=some x)(b:N[j]?=some x):i=j:=by
 obtain⟨h1,e1⟩:=List.getElem?_eq_some_iff.mp a
 obtain⟨h2,e2⟩:=List.getElem?_eq_some_iff.mp b
 exact(List.getElem_inj hN).mp (e1.trans e2.symm)
theorem store_ok2{M:Model}{A:Around}{E:Value->Shared->Prop}{i:Nat}{x:Str}{v:V}{u:Value}{Q:Unit->Shared->Prop}(I:Inv X pins σ H s)(hN:X.N.Nodup)(hi:X.N[i]?=some x)(hx:Loc X.env.scope x)(r:RelV v u)
  (h:∀s',Inv X pins (σ.set i (some v)) H s'->(∃a,Heap.SameBut a s.heap s'.heap/\(a=X.env.locals∨X.env.cells.lookup x=some a))->Q () s') (hf:X.fn x=true∨X.env.scope.names.lookup x=some .local:=by first|exact .inl rfl|exact .inr rfl|assumption):wpAny M A (storeName X.env x u) Q E s:=by
 obtain⟨m,hn,hl⟩:=id I.loc
 have hcls:(X.env.scope.kind == .class||(X.env.scope.kind == .module&&X.env.locals != X.env.globals))=false:=by rw[I.ok.kind];rfl
 have hiσ:i < σ.length:=by rw[I.len];exact(List.getElem?_eq_some_iff.mp hi).1
 have cne:=I.cne
 have tracked:∀{a:Addr}{h':Heap},(∃o,s.heap.get? a=some o/\H a=none)->Heap.SameBut a s.heap h'->HOk X.prog X.w H h':=fun {a h'} ha hs b ob e=>by
  obtain⟨_,_,hfree⟩:=ha
  refine(I.hok b ob e).stay (fun c w' hc q=>(hs.2 c ?_).trans q) (fun _ q=>q) fun _ _ q=>q
  rintro rfl
  rcases hc with rfl|hc
  ·rw[hfree]at e;cases e
  ·rw[hfree]at hc;cases hc
 rcases hx with hk|hk
 ·refine wpAny_storeName_local hk hn (fun h' hn' hs=>?_) hcls
  obtain⟨oL,_,_,hoL,_⟩:=id hn
  refine h _ ⟨I.ok,I.os,I.bare,⟨fun b o e n hb hx=>?_,fun b o e n hb hx=>?_,I.base.free,fun b o e hx=>?_,I.base.tups,I.base.frzs,I.base.tbls⟩,⟨_,hn',fun j y v' e1 e2 e3=>?_⟩,fun y c e=>?_,I.free,I.freeC,fun p hp=>?_,tracked ⟨oL,hoL,I.free⟩ hs,by simpa using I.len⟩ ⟨_,hs,.inl rfl⟩
  ·exact(hs.2 b (Nat.ne_of_lt (Nat.lt_of_lt_of_le (Heap.lt_size e) I.ok.above))).trans (I.base.keep b o e n hb hx)
  ·obtain⟨sl,e1⟩:=I.base.slot b o e n hb hx
   exact⟨sl,(hs.2 b (Nat.ne_of_lt (Nat.lt_of_lt_of_le (Heap.lt_size e) I.ok.above))).trans e1⟩
  ·obtain⟨o',e1⟩:=I.base.there b o e hx
   exact⟨o',(hs.2 b (Nat.ne_of_lt (Nat.lt_of_lt_of_le (Heap.lt_size e) I.ok.above))).trans e1⟩
  ·by_cases hj:j=i
   ·subst hj
    rw[hi]at e1;cases e1
    rw[List.getElem?_set_self hiσ]at e2
    cases e2
    exact⟨u,r,.inl ⟨hk,by simp⟩⟩
   ·rw[List.getElem?_set_ne (Ne.symm hj)]at e2
    obtain⟨u',r',q⟩:=hl j y v' e1 e2 e3
    refine⟨u',r',?_⟩
    rcases q with ⟨k,e⟩|⟨k,c,e,z⟩
    ·refine .inl ⟨k,?_⟩
     have:y≠x:=fun e=>hj (nodup_ix hN e1 (e ▸ hi))
     simp[this,e]
    ·exact .inr ⟨k,c,e,z.sameBut hs (cne y c e)⟩
  ·obtain⟨w',z⟩:=I.cell y c e
   exact⟨w',z.sameBut hs (cne y c e)⟩
  ·obtain⟨e,n,ne,nf,d⟩:=I.pin p hp
   exact⟨(hs.2 p.1 ne).trans e,n,ne,nf,d⟩
 ·have hfn:X.fn x=true:=by
   rcases hf with z|z
   ·exact z
   ·rw[z]at hk;cases hk
  obtain⟨c,hc⟩:=I.ok.has x (.inl hk)
  obtain⟨w',z⟩:=I.cell x c hc
  refine wpAny_storeName_cell I.ok.kind hk hc z (fun h' hc' hs=>?_)
  obtain⟨oc,hoc,hocd⟩:=id z
  refine h {s with heap:=h' } ⟨I.ok,I.os,I.bare,⟨fun b o e n hb hx=>?_,fun b o e n hb hx=>?_,I.base.free,fun b o e hx=>?_,I.base.tups,I.base.frzs,I.base.tbls⟩,⟨m,hn.sameBut hs (Ne.symm (cne x c hc)),fun j y v' e1 e2 e3=>?_⟩,fun y c' e=>?_,I.free,I.freeC,fun p hp=>?_,tracked ⟨oc,hoc,I.freeC x c hc⟩ hs,by simpa using I.len⟩ ⟨c,hs,.inr hc⟩
  ·exact(hs.2 b (Nat.ne_of_lt (Nat.lt_of_lt_of_le (Heap.lt_size e) (I.ok.cab x c hfn hc)))).trans (I.base.keep b o e n hb hx)
  ·obtain⟨sl,e1⟩:=I.base.slot b o e n hb hx
   exact⟨sl,(hs.2 b (Nat.ne_of_lt (Nat.lt_of_lt_of_le (Heap.lt_size e) (I.ok.cab x c hfn hc)))).trans e1⟩
  ·obtain⟨o',e1⟩:=I.base.there b o e hx
   exact⟨o',(hs.2 b (Nat.ne_of_lt (Nat.lt_of_lt_of_le (Heap.lt_size e) (I.ok.cab x c hfn hc)))).trans e1⟩
  ·by_cases hj:j=i
   ·subst hj
    rw[hi]at e1;cases e1
    rw[List.getElem?_set_self hiσ]at e2
    cases e2
    exact⟨u,r,.inr ⟨.inl hk,c,hc,hc'⟩⟩
   ·rw[List.getElem?_set_ne (Ne.symm hj)]at e2
    obtain⟨u',r',q⟩:=hl j y v' e1 e2 e3
    refine⟨u',r',?_⟩
    rcases q with q|⟨k,c',e,z'⟩
    ·exact .inl q
    ·refine .inr ⟨k,c',e,z'.sameBut hs ?_⟩
     rintro rfl
     exact hj (nodup_ix hN e1 (I.ok.inj _ _ _ e hc ▸ hi))
  ·by_cases hcc:c'=c
   ·subst hcc;exact⟨_,hc'⟩
   ·obtain⟨w2,z2⟩:=I.cell y c' e
    exact⟨w2,z2.sameBut hs hcc⟩
  ·obtain⟨e,n,ne,nf,d⟩:=I.pin p hp
   refine⟨(hs.2 p.1 ?_).trans e,n,ne,nf,d⟩
   intro q
   rw[q,hoc]at e
   have q':oc=p.2:=Option.some.inj e
   exact d w' (by rw[← q'];exact hocd)
theorem store_ok{M:Model}{A:Around}{E:Value->Shared->Prop}{i:Nat}{x:Str}{v:V}{u:Value}{Q:Unit->Shared->Prop}(I:Inv X pins σ H s)(hN:X.N.Nodup)(hi:X.N[i]?=some x)(hx:Loc X.env.scope x)(r:RelV v u)
  (h:∀s',Inv X pins (σ.set i (some v)) H s'->Q () s') (hf:X.fn x=true∨X.env.scope.names.lookup x=some .local:=by first|exact .inl rfl|exact .inr rfl|assumption):wpAny M A (storeName X.env x u) Q E s :=
 store_ok2 I hN hi hx r (fun s' I' _=>h s' I') hf
theorem Inv.call'{s':Shared}{ch:List Addr}(I:Inv X pins σ H s)(ho:s'.os=s.os)(u:Un (frs X.stack) ch H H' s.heap s'.heap)(hok:HOk X.prog X.w H' s'.heap)(hg:AllBare s'.gens)
  (hch:∀b∈ch,(b∈X.ex∨X.s₀.heap.objs.size<=b)/\b≠X.env.locals/\(∀x c,X.env.cells.lookup x=some c->c≠b)/\∀p∈X.pn++pins,p.1≠b):Inv X pins σ H' s':=by
 obtain⟨h',g',d',t',o'⟩:=s'
 have e:o'=s.os:=ho
 subst e
 exact I.call (g':=g') (t':=t') (d':=d') u hok hg hch
end
abbrev XK:=Value->Option Addr->Hp->Prop
abbrev St:=List (Option V)
abbrev VK:=V->Hp->Prop
abbrev TE:=St->Hp->VK->Prop
abbrev TT:=St->Hp->(Bool->Hp->Prop)->Prop
abbrev TA:=St->Hp->(List V->Hp->Prop)->Prop
structure Ends where
 nx:St->Hp->Prop
 rt:VK
 bk:St->Hp->Prop:=fun _ _=>False
 ct:St->Hp->Prop:=fun _ _=>False
abbrev TS:=Ends->St->Hp->Prop
def EP(X:Cx)(pins:List (Addr×Obj))(σ:St)(Q:VK)(u:Value)(s':Shared):Prop:=∃v H',Inv X pins σ H' s'/\RelV v u/\Q v H'
def TP(X:Cx)(pins:List (Addr×Obj))(σ:St)(Q:Bool->Hp->Prop)(b:Bool)(s':Shared):Prop:=∃H',Inv X pins σ H' s'/\Q b H'
def AP(X:Cx)(pins:List (Addr×Obj))(σ:St)(Q:List V->Hp->Prop)(us:List Value)(s':Shared):Prop:=∃vs H',Inv X pins σ H' s'/\Vals vs us/\Q vs H'
def SP(X:Cx)(pins:List (Addr×Obj))(D:Ends)(f:Flow)(s':Shared):Prop :=
 match f with
 | .next=>∃σ' H',Inv X pins σ' H' s'/\D.nx σ' H'
 | .brk=>∃σ' H',Inv X pins σ' H' s'/\D.bk σ' H'
 | .cont=>∃σ' H',Inv X pins σ' H' s'/\D.ct σ' H'
 | .ret u=>∃v σ' H',Inv X pins σ' H' s'/\RelV v u/\D.rt v H'
def PE(X:Cx)(e:Expr)(t:TE):Prop :=
 ∀(pins:List (Addr×Obj))(s:Shared)(σ:St)(H:Hp)(Q:VK),Inv X pins σ H s->t σ H Q->wpAny (model X.prog X.w) X.A (eval e X.env) (EP X pins σ Q) X.xe s
def PT(X:Cx)(e:Expr)(t:TT):Prop :=
 ∀(pins:List (Addr×Obj))(s:Shared)(σ:St)(H:Hp)(Q:Bool->Hp->Prop),Inv X pins σ H s->t σ H Q->wpAny (model X.prog X.w) X.A (isTrue e X.env (eval e X.env)) (TP X pins σ Q) X.xe s
def PW(X:Cx)(e:Expr)(t:TT):Prop :=
 ∀(whole:Sem Value)(pins:List (Addr×Obj))(s:Shared)(σ:St)(H:Hp)(Q:Bool->Hp->Prop),Inv X pins σ H s->t σ H Q->wpAny (model X.prog X.w) X.A (isTrue e X.env whole) (TP X pins σ Q) X.xe s
theorem PW.pt{X:Cx}{e:Expr}{t:TT}(h:PW X e t):PT X e t:=h _
def PA(X:Cx)(es:List Expr)(t:TA):Prop :=
 ∀(pos:Pos)(pins:List (Addr×Obj))(s:Shared)(σ:St)(H:Hp)(Q:List V->Hp->Prop),Inv X pins σ H s->t σ H Q->wpAny (model X.prog X.w) X.A (spliced (backTo pos (starEach es X.env))) (AP X pins σ Q) X.xe s
def PS(X:Cx)(st:Stmt)(t:TS):Prop :=
 ∀(pins:List (Addr×Obj))(s:Shared)(σ:St)(H:Hp)(D:Ends),Inv X pins σ H s->t D σ H->wpAny (model X.prog X.w) X.A (exec st X.env) (SP X pins D) X.xe s
def PSs(X:Cx)(st:List Stmt)(t:TS):Prop :=
 ∀(pins:List (Addr×Obj))(s:Shared)(σ:St)(H:Hp)(D:Ends),Inv X pins σ H s->t D σ H->wpAny (model X.prog X.w) X.A (execs st X.env) (SP X pins D) X.xe s
theorem thn{α:Type}{t:Sem α}{Q Q':α->Shared->Prop}{M:Model}{A:Around}{E:Value->Shared->Prop}{s:Shared}(h:wpAny M A t Q E s)(hQ:∀a s,Q a s->Q' a s):wpAny M A t Q' E s:=wpAny_mono h hQ fun _ _ x=>x
end L2
namespace L2
open PySem PySem.Spec PyProof.Rows
section
variable {X:Cx}
def tVar(i:Nat):TE:=fun σ H Q=>∃v,σ[i]?=some (some v)/\Q v H
def tC(v:V):TE:=fun _ H Q=>Q v H
theorem pe_var{i:Nat}{x:Str}{pos:Pos}(hN:X.N[i]?=some x)(hv:Vis X.env.scope x) (hd:(x==("__debug__" : Str))=false:=by decide) (hcd:(x==("__classdict__" : Str))=false:=by decide):PE X (.Name x pos) (tVar i):=by
 intro pins s σ H Q I h
 obtain⟨v,e,h⟩:=h
 obtain⟨m,hn,hl⟩:=I.loc
 obtain⟨u,r,l⟩:=hl i x v hN e hv
 have fin:EP X pins σ Q u s:=⟨v,H,I,r,h⟩
 rcases l with ⟨hk,hm⟩|⟨hk,c,hc,hcell⟩
 ·exact wpAny_Name (wpAny_loadName_local I.ok.kind hk hn hm fin) hd
 ·rcases hk with hk|hk
  ·exact wpAny_Name (wpAny_loadName_cell I.ok.kind hk hc hcell fin) hd
  ·exact wpAny_Name (wpAny_loadName_free I.ok.kind hk hc hcell fin hcd) hd
theorem pe_int{i j pos}:PE X (.Constant (.int i) j pos) (tC (.int i)):=fun _ _ _ H _ I h=>wpAny_Constant_int ⟨.int i,H,I.tok _,⟨_,rfl⟩,h⟩
theorem pe_bl{b j pos}:PE X (.Constant (.bool b) j pos) (tC (.bl b)):=fun _ _ _ H _ I h=>Constant_bool ⟨.bl b,H,I,rfl,h⟩
theorem pe_non{j pos}:PE X (.Constant .none j pos) (tC .non):=fun _ _ _ H _ I h=>Constant_none ⟨.non,H,I,rfl,h⟩
def Gl(X:Cx)(x:Str):Prop:=X.env.kindOf x=some .globalImplicit
theorem ld_glob{E:Value->Shared->Prop}{pins:List (Addr×Obj)}{s:Shared}{σ:St}{H:Hp}{x:Str}{u:Value}{pos:Pos}{Q:Value->Shared->Prop}(I:Inv X pins σ H s)(hg:Gl X x)(hm:X.mg x=some u)(h:Q u s)
  (hd:(x==("__debug__" : Str))=false:=by decide):wpAny (model X.prog X.w) X.A (eval (.Name x pos) X.env) Q E s :=
 Calls.Name_function_global I.ok.kind hg (Calls.loadGlobal_global (by rw[I.ok.glob];exact I.mod.glob.keeps I.bk) hm h) hd
theorem ld_blt{E:Value->Shared->Prop}{pins:List (Addr×Obj)}{s:Shared}{σ:St}{H:Hp}{x:Str}{u:Value}{pos:Pos}{Q:Value->Shared->Prop}(I:Inv X pins σ H s)(hg:Gl X x)(hm:X.mg x=none)(hv:bootBuiltins x=some u)(h:Q u s)
  (hn:x ≠ "__name__" := by decide) (hd:(x==("__debug__" : Str))=false:=by decide):wpAny (model X.prog X.w) X.A (eval (.Name x pos) X.env) Q E s:=by
 obtain⟨mb,h1,h2⟩:=I.mod.blt
 exact Calls.Name_function_global I.ok.kind hg (Calls.loadGlobal_builtin (by rw[I.ok.glob];exact I.mod.glob.keeps I.bk) hm (by rw[I.ok.blt];exact h1.keeps I.bk) ((h2 x hn).trans hv) h) hd
theorem pe_bltn{x:Str}{v:V}{u:Value}{pos:Pos}(hg:Gl X x)(hm:X.mg x=none)(hv:bootBuiltins x=some u)(r:RelV v u) (hn:x ≠ "__name__" := by decide) (hd:(x==("__debug__" : Str))=false:=by decide):PE X (.Name x pos) (tC v) :=
 fun _ _ _ H _ I h=>ld_blt I hg hm hv ⟨v,H,I,r,h⟩ hn hd
variable {a b:Expr} {ta tb:TE} {pos:Pos}
def tB(t:TE):TT:=fun σ H Q=>t σ H fun x H1=>∃c,x=.bl c/\Q c H1
theorem pt_val{e:Expr}{t:TE}(h:PE X e t)(he:∀whole,isTrue e X.env whole=(do let v ← whole;standAt e.pos;holding [v] (truthy v)):=by intro _;rfl):PT X e (tB t):=by
 intro pins s σ H Q I hw
 refine isTrue_plain (thn (h pins s σ H _ I hw) fun v s1 ⟨x,H1,I1,r1,q1⟩=>?_) (he _)
 obtain⟨d,rfl,q⟩:=q1
 cases r1
 exact wpAny_truthy_bool ⟨H1,I1,q⟩
variable {tA tB':TT} {rest:List Expr}
def tOr(t u:TT):TT:=fun σ H Q=>t σ H fun c H1=>if c=true then Q true H1 else u σ H1 Q
def tNot(t:TT):TT:=fun σ H Q=>t σ H fun c H1=>Q (!c) H1
theorem pw_or1(ha:PT X a tA):PW X (.BoolOp .Or [a] pos) tA:=by
 intro wh pins s σ H Q I h
 refine isTrue_or (thn (ha pins s σ H Q I h) fun c s1 e=>?_)
 cases c with
 | false=>exact isTrue_or_nil e
 | true=>exact e
theorem pw_or(ha:PT X a tA)(hb:PW X (.BoolOp .Or (b::rest) pos) tB'):PW X (.BoolOp .Or (a::b::rest) pos) (tOr tA tB'):=by
 intro wh pins s σ H Q I h
 refine isTrue_or (thn (ha pins s σ H _ I h) fun c s1 ⟨H1,I1,q1⟩=>?_)
 cases c with
 | true=>exact⟨H1,I1,q1⟩
 | false=>exact hb wh pins s1 σ H1 Q I1 q1
theorem pt_not(ha:PT X a tA):PT X (.UnaryOp .Not a pos) (tNot tA):=by
 intro pins s σ H Q I h
 exact isTrue_not (ha pins s σ H (fun c H1=>Q (!c) H1) I h)
def tAndV(ta tb:TE):TE:=fun σ H Q=>ta σ H fun x H1=>∃c,x=.bl c/\if c=true then tb σ H1 Q else Q (.bl false) H1
def tNotV(ta:TE):TE:=fun σ H Q=>ta σ H fun x H1=>∃c,x=.bl c/\Q (.bl (!c)) H1
theorem pe_one{op}{t:TE}(h:PE X a t):PE X (.BoolOp op [a] pos) t:=fun pins s σ H Q I hw=>BoolOp_one (h pins s σ H Q I hw)
theorem pe_and(ha:PE X a ta)(hb:PE X (.BoolOp .And (b::rest) pos) tb):PE X (.BoolOp .And (a::b::rest) pos) (tAndV ta tb):=by
 intro pins s σ H Q I h
 refine BoolOp_and (thn (ha pins s σ H _ I h) fun v s1 ⟨x,H1,I1,r1,q1⟩=>?_)
 obtain⟨c,rfl,q1⟩:=q1
 cases r1
 refine wpAny_truthy_bool ?_
 cases c with
 | true=>exact hb pins s1 σ H1 Q I1 q1
 | false=>exact⟨.bl false,H1,I1,rfl,q1⟩
theorem pe_not(ha:PE X a ta):PE X (.UnaryOp .Not a pos) (tNotV ta):=by
 intro pins s σ H Q I h
 refine UnaryOp_ (thn (ha pins s σ H _ I h) fun v s1 ⟨x,H1,I1,r1,q1⟩=>?_)
 obtain⟨c,rfl,q1⟩:=q1
 cases r1
 exact not_of (wpAny_truthy_bool ⟨.bl (!c),H1,I1,rfl,q1⟩)
end
end L2
namespace L2
open PySem PySem.Spec PyProof.Rows
def SqL(K:PySem.W.Frag)(H:Hp)(a:Addr)(xs:List V):Prop :=
 Rd H a (.lst xs) ∨
  ∃(o:Obj) (its:Array Value) (n:Nat),K.lookup a=some o/\o.cls=.type "list" /\ o.dict=none/\o.data=.seq its n/\its.size<=sizeLine/\Vals xs its.toList
def SqT(K:PySem.W.Frag)(H:Hp)(a:Addr)(xs:List V):Prop :=
 Rd H a (.tup xs) ∨
  ∃(o:Obj) (its:Array Value) (n:Nat),K.lookup a=some o/\o.cls=.type "tuple" /\ o.data=.seq its n/\its.size<=sizeLine/\Vals xs its.toList
def absV:Value->Option V
 | .none=>some .non
 | .bool b=>some (.bl b)
 | .int i _=>some (.int i)
 | .str x _=>some (.str x)
 | .bytes b _=>some (.byt b)
 | .float b _=>some (.flt b)
 | .ref a=>some (.ref a)
 | .type n=>some (.ty n)
 | _=>none
theorem RelV.abs{x:V}{u:Value}(r:RelV x u):absV u=some x:=by
 cases x with
 | non=>cases r;rfl
 | bl _=>cases r;rfl
 | int _=>obtain⟨t,rfl⟩:=r;rfl
 | str _=>obtain⟨t,rfl⟩:=r;rfl
 | byt _=>obtain⟨t,rfl⟩:=r;rfl
 | flt _=>obtain⟨t,rfl⟩:=r;rfl
 | ref _=>cases r;rfl
 | ty _=>cases r;rfl
theorem RelV.inj{x y:V}{u:Value}(r:RelV x u)(q:RelV y u):x=y:=Option.some.inj (r.abs.symm.trans q.abs)
theorem Vals.inj:∀{xs ys:List V}{us:List Value},Vals xs us->Vals ys us->xs=ys
 | _,_,_,.nil,.nil=>rfl
 | _,_,_,.cons r t,.cons r' t'=>by rw[r.inj r',Vals.inj t t']
section
variable {X:Cx} {pins:List (Addr×Obj)} {σ:St} {H:Hp} {s:Shared} {a:Addr} {xs ys:List V}
theorem SqL.of{K:PySem.W.Frag}(h:H a=some (.lst xs)):SqL K H a xs:=.inl (.inl h)
theorem SqT.of{K:PySem.W.Frag}(h:H a=some (.tup xs)):SqT K H a xs:=.inl (.inl h)
theorem Inv.list(I:Inv X pins σ H s)(h:SqL X.K H a xs):∃its:List Value,Vals xs its/\PlainL s.heap a its.toArray/\xs.length<=sizeLine:=by
 rcases h with h|⟨o,its,n,hk,hc,hd,hs,hz,r⟩
 ·obtain⟨z,its,n,r,e⟩:=h.ok I.hok
  exact⟨its,r,⟨_,n,e,rfl,rfl,rfl⟩,z⟩
 ·refine⟨its.toList,r,⟨o,n,I.kIn a o hk,hc,hd,by simpa using hs⟩,?_⟩
  have e:=r.length
  simp only[Array.length_toList]at e
  omega
theorem Inv.tuple(I:Inv X pins σ H s)(h:SqT X.K H a xs):∃its:List Value,Vals xs its/\IsTup s.heap a its.toArray/\xs.length<=sizeLine:=by
 rcases h with h|⟨o,its,n,hk,hc,hs,hz,r⟩
 ·obtain⟨z,its,r,p⟩:=h.ok I.hok
  exact⟨its,r,p,z⟩
 ·refine⟨its.toList,r,⟨o,I.kIn a o hk,hc,n,by simpa using hs⟩,?_⟩
  have e:=r.length
  simp only[Array.length_toList]at e
  omega
theorem Inv.list_inj(I:Inv X pins σ H s)(h:SqL X.K H a xs)(h':SqL X.K H a ys):xs=ys:=by
 obtain⟨its,r,⟨o,n,e,_,_,d⟩,_⟩:=I.list h
 obtain⟨its',r',⟨o',n',e',_,_,d'⟩,_⟩:=I.list h'
 rw[e]at e';cases e'
 rw[d]at d'
 injection d' with d1 _
 have:its=its':=by simpa using congrArg Array.toList d1
 subst this
 exact r.inj r'
theorem Inv.tuple_inj(I:Inv X pins σ H s)(h:SqT X.K H a xs)(h':SqT X.K H a ys):xs=ys:=by
 obtain⟨its,r,⟨o,e,_,n,d⟩,_⟩:=I.tuple h
 obtain⟨its',r',⟨o',e',_,n',d'⟩,_⟩:=I.tuple h'
 rw[e]at e';cases e'
 rw[d]at d'
 injection d' with d1 _
 have:its=its':=by simpa using congrArg Array.toList d1
 subst this
 exact r.inj r'
end
abbrev Cx.wish(X:Cx)(E:Value->Shared->Prop):Cx:={X with xe:=E}
abbrev Cx.nox(X:Cx):Cx:=X.wish fun _ _=>False
theorem Cx.Ok.wish{X:Cx}(ok:X.Ok)(E:Value->Shared->Prop):(X.wish E).Ok :=
 ⟨ok.mod,ok.kind,ok.glob,ok.blt,ok.above,ok.inj,ok.has,ok.cab,ok.hd,ok.frames,ok.stk,ok.exf,ok.bs,ok.bsz,ok.noex,ok.exfs,ok.funs,ok.frf⟩
theorem Cx.Ok.unwish{X:Cx}{E:Value->Shared->Prop}(ok:(X.wish E).Ok):X.Ok :=
 ⟨ok.mod,ok.kind,ok.glob,ok.blt,ok.above,ok.inj,ok.has,ok.cab,ok.hd,ok.frames,ok.stk,ok.exf,ok.bs,ok.bsz,ok.noex,ok.exfs,ok.funs,ok.frf⟩
section
variable {X:Cx} {pins:List (Addr×Obj)} {σ:St} {H:Hp} {s:Shared} {E:Value->Shared->Prop}
theorem Inv.wish(I:Inv X pins σ H s)(E:Value->Shared->Prop):Inv (X.wish E) pins σ H s:=⟨I.ok.wish E,I.os,I.bare,I.base,I.loc,I.cell,I.free,I.freeC,I.pin,I.hok,I.len⟩
theorem Inv.unwish(I:Inv (X.wish E) pins σ H s):Inv X pins σ H s:=⟨I.ok.unwish,I.os,I.bare,I.base,I.loc,I.cell,I.free,I.freeC,I.pin,I.hok,I.len⟩
theorem SP.unwish{D:Ends}{f:Flow}{s':Shared}(h:SP (X.wish E) pins D f s'):SP X pins D f s':=by
 cases f with
 | next=>obtain⟨σ',H',I,q⟩:=h;exact⟨σ',H',I.unwish,q⟩
 | brk=>obtain⟨σ',H',I,q⟩:=h;exact⟨σ',H',I.unwish,q⟩
 | cont=>obtain⟨σ',H',I,q⟩:=h;exact⟨σ',H',I.unwish,q⟩
 | ret u=>obtain⟨v,σ',H',I,r,q⟩:=h;exact⟨v,σ',H',I.unwish,r,q⟩
theorem PE.nox{e:Expr}{t:TE}(h:PE X.nox e t):PE X e t:=fun pins s σ H Q I hw =>
 wpAny_mono (h pins s σ H Q (I.wish _) hw) (fun _ _ ⟨v,H',I',r,q⟩=>⟨v,H',I'.unwish,r,q⟩) fun _ _ z=>False.elim z
theorem PT.nox{e:Expr}{t:TT}(h:PT X.nox e t):PT X e t:=fun pins s σ H Q I hw =>
 wpAny_mono (h pins s σ H Q (I.wish _) hw) (fun _ _ ⟨H',I',q⟩=>⟨H',I'.unwish,q⟩) fun _ _ z=>False.elim z
theorem PSs.nox{st:List Stmt}{t:TS}(h:PSs X.nox st t):PSs X st t:=fun pins s σ H D I hw =>
 wpAny_mono (h pins s σ H D (I.wish _) hw) (fun _ _ q=>q.unwish) fun _ _ z=>False.elim z
end
section
variable {X:Cx} {st:Stmt} {rest:List Stmt} {t u:TS} {e:Expr} {te:TE} {pos:Pos}
def tNext:TS:=fun D σ H=>D.nx σ H
def tSeq(t u:TS):TS:=fun D σ H=>t {D with nx:=u D} σ H
theorem pss_nil:PSs X [] tNext:=fun _ _ σ H _ I h=>wpAny_execs_nil ⟨σ,H,I,h⟩
theorem pss_cons(h1:PS X st t)(h2:PSs X rest u):PSs X (st::rest) (tSeq t u):=by
 intro pins s σ H D I h
 refine wpAny_execs_cons (thn (h1 pins s σ H {D with nx:=u D} I h) fun f s1 q=>?_)
 cases f with
 | next =>
  obtain⟨σ',H',I',q⟩:=q
  exact h2 pins s1 σ' H' D I' q
 | ret v=>exact q
 | brk=>exact q
 | cont=>exact q
theorem pss_one(h1:PS X st t):PSs X [st] t:=by
 intro pins s σ H D I h
 refine wpAny_execs_cons (thn (h1 pins s σ H D I h) fun f s1 q=>?_)
 cases f with
 | next=>exact wpAny_execs_nil q
 | ret v=>exact q
 | brk=>exact q
 | cont=>exact q
theorem Inv.quiet{pins:List (Addr×Obj)}{σ:St}{H:Hp}{s:Shared}(I:Inv X pins σ H s):interactive X.env=false:=by simp[interactive,I.ok.kind]
def tDrop(te:TE):TS:=fun D σ H=>te σ H fun _ H1=>D.nx σ H1
theorem ps_expr(he:PE X e te)(hs:swapsWith e none pos.line X.env=pure false:=by rfl):PS X (.Expr e pos) (tDrop te):=by
 intro pins s σ H D I h
 exact wpAny_Expr_any (thn (he pins s σ H _ I h) fun v s1 ⟨x,H1,I1,r1,q1⟩=>⟨σ,H1,I1,q1⟩) I.quiet hs
def tRet(te:TE):TS:=fun D σ H=>te σ H D.rt
theorem ps_ret(he:PE X e te):PS X (.Return (some e) pos) (tRet te):=by
 intro pins s σ H D I h
 exact wpAny_Return_some (thn (he pins s σ H _ I h) fun v s1 ⟨x,H1,I1,r1,q1⟩=>⟨x,σ,H1,I1,r1,q1⟩)
def tIfS(c:TT)(t u:TS):TS:=fun D σ H=>c σ H fun b H1=>if b=true then t D σ H1 else u D σ H1
theorem ps_if{c:Expr}{a b:List Stmt}{tc:TT}(hc:PT X c tc)(ha:PSs X a t)(hb:PSs X b u):PS X (.If c a b pos) (tIfS tc t u):=by
 intro pins s σ H D I h
 refine wpAny_If (thn (hc pins s σ H _ I h) fun d s1 ⟨H1,I1,q1⟩=>?_)
 cases d with
 | true=>exact ha pins s1 σ H1 D I1 q1
 | false=>exact hb pins s1 σ H1 D I1 q1
def tNever:TS:=fun _ _ _=>False
theorem ps_never:PS X st tNever:=fun _ _ _ _ _ _ h=>h.elim
end
abbrev TG:=V->St->Hp->(St->Hp->Prop)->Prop
abbrev TGs:=List V->St->Hp->(St->Hp->Prop)->Prop
def PG(X:Cx)(target:Expr)(t:TG):Prop :=
 ∀(pins:List (Addr×Obj))(s:Shared)(σ:St)(H:Hp)(v:V)(u:Value)(Q:St->Hp->Prop),Inv X pins σ H s->RelV v u->t v σ H Q →
  wpAny (model X.prog X.w) X.A (assign target X.env u) (fun _ s'=>∃σ' H',Inv X pins σ' H' s'/\Q σ' H') X.xe s
def PGs(X:Cx)(ts:List Expr)(t:TGs):Prop :=
 ∀(pins:List (Addr×Obj))(s:Shared)(σ:St)(H:Hp)(vs:List V)(us:List Value)(Q:St->Hp->Prop),Inv X pins σ H s->Vals vs us->t vs σ H Q →
  wpAny (model X.prog X.w) X.A (assignInOrder ((assignEach ts X.env).map (·.2)) us) (fun _ s'=>∃σ' H',Inv X pins σ' H' s'/\Q σ' H') X.xe s
abbrev TSet:=V->V->V->Hp->(Hp->Prop)->Prop
def PSet(X:Cx)(t:TSet):Prop :=
 ∀(pins:List (Addr×Obj))(s:Shared)(σ:St)(H:Hp)(o i v:V)(ov iv u:Value)(Q:Hp->Prop),Inv X pins σ H s->RelV o ov->RelV i iv->RelV v u->t o i v H Q →
  wpAny (model X.prog X.w) X.A (setItem ov iv u) (fun _ s'=>∃H',Inv X pins σ H' s'/\Q H') X.xe s
section
variable {X:Cx} {pos:Pos}
def gName(i:Nat):TG:=fun v σ H Q=>Q (σ.set i (some v)) H
theorem pg_name{i:Nat}{x:Str}(hN:X.N.Nodup)(hi:X.N[i]?=some x)(hx:Loc X.env.scope x)(hf:X.fn x=true∨X.env.scope.names.lookup x=some .local:=by first|exact .inl rfl|exact .inr rfl|assumption):PG X (.Name x pos) (gName i):=by
 intro pins s σ H v u Q I r h
 exact wpAny_assign_Name (store_ok I hN hi hx r (fun s' I'=>⟨_,H,I',h⟩) hf)
def gNil:TGs:=fun vs σ H Q=>vs=[]/\Q σ H
def gCons(t:TG)(u:TGs):TGs:=fun vs σ H Q=>∃v r,vs=v::r/\t v σ H fun σ' H'=>u r σ' H' Q
theorem pgs_nil:PGs X [] gNil:=by
 intro pins s σ H vs us Q I r h
 obtain⟨e,h⟩:=h
 subst e
 cases r
 exact assignInOrder_nil ⟨σ,H,I,h⟩
theorem pgs_cons{e:Expr}{es:List Expr}{t:TG}{u:TGs}(h1:PG X e t)(h2:PGs X es u)
  (hs:(assignEach (e::es) X.env).map (·.2)=assign e X.env::(assignEach es X.env).map (·.2):=by rfl):PGs X (e::es) (gCons t u):=by
 intro pins s σ H vs us Q I r h
 obtain⟨v,vr,e1,h⟩:=h
 subst e1
 cases r with
 | cons r rr =>
  rw[hs]
  refine assignInOrder_cons (thn (h1 pins s σ H _ _ _ I r h) fun _ s1 ⟨σ1,H1,I1,q1⟩=>?_)
  exact h2 pins s1 σ1 H1 _ _ Q I1 rr q1
def gSub(to ti:TE)(t:TSet):TG:=fun v σ H Q=>to σ H fun o H1=>ti σ H1 fun i H2=>t o i v H2 fun H3=>Q σ H3
theorem pg_sub{o i:Expr}{to ti:TE}{t:TSet}(ho:PE X o to)(hi:PE X i ti)(hs:PSet X t)
  (ha:∀v,assign (.Subscript o i pos) X.env v=(do
   let ov ← holding [v] (eval o X.env)
   let iv ← holding [v,ov] (eval i X.env)
   standAt pos
   holding [v,ov,iv] (setItem ov iv v)
   release [v,ov,iv] []):=by intro _;rfl):PG X (.Subscript o i pos) (gSub to ti t):=by
 intro pins s σ H v u Q I r h
 rw[ha]
 refine wpAny_bind (wpAny_holding (thn (ho pins s σ H _ I h) fun ov s1 ⟨x,H1,I1,r1,q1⟩=>?_))
 refine wpAny_bind (wpAny_holding (thn (hi pins s1 σ H1 _ I1 q1) fun iv s2 ⟨y,H2,I2,r2,q2⟩=>?_))
 refine wpAny_bind (wpAny_standAt (wpAny_bind (wpAny_holding (thn (hs pins s2 σ H2 x y v ov iv u _ I2 r1 r2 r q2) fun _ s3 ⟨H3,I3,q3⟩=>?_))))
 exact wpAny_release ⟨σ,H3,I3,q3⟩
def tAsg(te:TE)(g:TG):TS:=fun D σ H=>te σ H fun x H1=>g x σ H1 D.nx
theorem ps_asg{tg e:Expr}{te:TE}{g:TG}(he:PE X e te)(hg:PG X tg g)(hs:swapsWithSole [tg] e pos.line X.env=pure false:=by rfl)(hw:swappedStores [tg] e X.env=pure none:=by rfl)
  (h1:(assignEach [tg] X.env).map (·.2)=[assign tg X.env]:=by rfl):PS X (.Assign [tg] e pos) (tAsg te g):=by
 intro pins s σ H D I h
 refine wpAny_Assign_stores (thn (he pins s σ H _ I h) fun v s1 ⟨x,H1,I1,r1,q1⟩=>?_) hs hw
 rw[h1]
 exact thn (hg pins s1 σ H1 x v _ I1 r1 q1) fun _ s2 q=>q
theorem ps_set{i:Nat}{x:Str}{e:Expr}{te:TE}{pos':Pos}(hN:X.N.Nodup)(hi:X.N[i]?=some x)(hx:Loc X.env.scope x)(he:PE X e te)(hs:swapsWith e (some (.Name x pos')) pos.line X.env=pure false:=by rfl)(hf:X.fn x=true∨X.env.scope.names.lookup x=some .local:=by first|exact .inl rfl|exact .inr rfl|assumption) :
  PS X (.Assign [.Name x pos'] e pos) (tAsg te (gName i)):=by
 intro pins s σ H D I h
 refine wpAny_Assign_Name (thn (he pins s σ H _ I h) fun v s1 ⟨y,H1,I1,r1,q1⟩=>?_) hs
 exact store_ok I1 hN hi hx r1 (fun s2 I2=>⟨_,H1,I2,q1⟩) hf
def tPar(i j:Nat)(ta:TA):TS:=fun D σ H=>ta σ H fun vs H1=>∃v w,vs=[v,w]/\D.nx ((σ.set i (some v)).set j (some w)) H1
theorem ps_par{i j:Nat}{x y:Str}{a b:Expr}{ta:TA}{px py pt:Pos}{kt k2 pt2}(hc:X.calm=true)(hN:X.N.Nodup)(hi:X.N[i]?=some x)(hj:X.N[j]?=some y)(hij:i≠j)
  (hx:X.env.scope.names.lookup x=some .local) (hy:X.env.scope.names.lookup y=some .local) (ha:PA X [a,b] ta)
  (hw:swappedStores [.Tuple [.Name x px,.Name y py] kt pt] (.Tuple [a,b] k2 pt2) X.env=pure (some [x,y]))
  (hs:swapsWithSole [.Tuple [.Name x px,.Name y py] kt pt] (.Tuple [a,b] k2 pt2) pos.line X.env=pure false:=by rfl) :
  PS X (.Assign [.Tuple [.Name x px,.Name y py] kt pt] (.Tuple [a,b] k2 pt2) pos) (tPar i j ta):=by
 intro pins s σ H D I h
 rw[exec_Assign_arm]
 refine wpAny_bind (wpAny_standAt ?_)
 rw[hs]
 refine wpAny_bind (wpAny_pure ?_)
 rw[if_neg (by decide)]
 refine wpAny_bind (Tuple_ (thn (ha _ pins s σ H _ I h) fun us s1 ⟨vs,H1,I1,r1,q1⟩=>?_))
 obtain⟨v,w,e1,q1⟩:=q1
 subst e1
 obtain⟨u1,u2,rfl,rv,rw'⟩:∃u1 u2,us=[u1,u2]/\RelV v u1/\RelV w u2:=by
  cases r1 with
  | cons p q =>
   cases q with
   | cons p' q' =>
    cases q'
    exact⟨_,_,rfl,p,p'⟩
 refine wpAny_newObj_type ?_ (by show 2<=sizeLine;decide)
 have I2:Inv X pins σ H1 {s1 with heap:=s1.heap.push {cls:=.type "tuple", data:=.seq [u1,u2].toArray} }:=I1.kept (t':=s1.toks) fun b o e=>Heap.get?_push_of_some _ e
 rw[hw]
 refine wpAny_bind (wpAny_pure ?_)
 show wpAny (model X.prog X.w) X.A (do rule "assign.swapped-stores"; let items ← unpackItems (.ref s1.heap.objs.size) 2 none;assignInOrder [fun v=>bindName X.env y v,fun v=>bindName X.env x v] items.reverse;pure Flow.next) _ _ _
 refine wpAny_bind (wpAny_rule (wpAny_bind (unpackItems_tuple (items:=#[u1,u2]) (I.ok.hd hc) (IsTup.new s1.heap _) fun h' hx'=>?_)))
 have I3:=I2.kept (h':=h') (t':=s1.toks) fun b o e=>hx' b o (Nat.ne_of_lt (Heap.lt_size e)) e
 show wpAny _ _ (assignInOrder [fun v=>bindName X.env y v,fun v=>bindName X.env x v] [u2,u1] >>= fun _=>pure Flow.next) _ _ _
 refine wpAny_bind (assignInOrder_cons (wpAny_bindName (store_ok I3 hN hj (.inl hy) rw' (fun s2 I4=>?_) (.inr hy))))
 refine assignInOrder_cons (wpAny_bindName (store_ok I4 hN hi (.inl hx) rv (fun s3 I5=>assignInOrder_nil (wpAny_pure ?_)) (.inr hx)))
 rw[List.set_comm _ _ (Ne.symm hij)]at I5
 exact⟨_,H1,I5,q1⟩
end
section
variable {X:Cx} {pos:Pos}
def tWhile(c:TT)(tb:TS):TS:=fun D σ H=>∃W:Nat->St->Hp->Prop,(∃m,W m σ H)/\∀m σ H,W m σ H →
 c σ H fun b H1=>if b=true then ∃N:St->Hp->Prop,(∀σ' H',N σ' H'->∃m',m' < m/\W m' σ' H')/\tb {D with nx:=N,ct:=N,bk:=D.nx} σ H1 else D.nx σ H1
theorem ps_while{c:Expr}{body:List Stmt}{tc:TT}{tb:TS}(hp:PassesOwn (model X.prog X.w) X.A X.env X.xe)(hc:PT X c tc)(hb:PSs X body tb):PS X (.While c body [] pos) (tWhile tc tb):=by
 intro pins s σ H D I h
 obtain⟨W,⟨m0,w0⟩,turn⟩:=h
 refine wpAny_While (codeAny_whileLoop (fun n s'=>∃σ' H',Inv X pins σ' H' s'/\W n σ' H') ?_ m0 ⟨σ,H,I,w0⟩)
 rintro n s1 ⟨σ1,H1,I1,w1⟩
 refine wpAny_passesOwn hp (thn (hc pins s1 σ1 H1 _ I1 (turn n σ1 H1 w1)) fun b s2 ⟨H2,I2,q2⟩=>?_)
 cases b with
 | true =>
  obtain⟨N,hN,q2⟩:=q2
  rw[if_pos rfl]
  refine wpAny_passesOwn hp (thn (hb pins s2 σ1 H2 _ I2 q2) fun f s3 q3=>?_)
  cases f with
  | next =>
   obtain⟨σ3,H3,I3,n3⟩:=q3
   obtain⟨m',hm,w3⟩:=hN σ3 H3 n3
   exact⟨m',hm,σ3,H3,I3,w3⟩
  | cont =>
   obtain⟨σ3,H3,I3,n3⟩:=q3
   obtain⟨m',hm,w3⟩:=hN σ3 H3 n3
   exact⟨m',hm,σ3,H3,I3,w3⟩
  | brk=>exact q3
  | ret v=>exact q3
 | false =>
  rw[if_neg Bool.false_ne_true]
  exact wpAny_execs_nil ⟨σ1,H2,I2,q2⟩
end
structure It where
 go:Nat->Hp->Prop
 yld:Nat->Hp->V->Hp->Prop
 stop:Nat->Hp->Prop
def FpOk(X:Cx)(pins:List (Addr×Obj))(H:Hp)(b:Addr):Prop :=
 H b=none/\b≠X.env.locals/\b∉X.fs/\(b∈X.ex∨X.s₀.heap.objs.size<=b)/\(∀x c,X.env.cells.lookup x=some c->c≠b)/\∀p∈X.pn++pins,p.1≠b
theorem Inv.fpOk{X:Cx}{pins:List (Addr×Obj)}{σ:St}{H H':Hp}{s:Shared}{b:Addr}(I:Inv X pins σ H s)(hb:s.heap.objs.size<=b)(hn:H' b=none):FpOk X pins H' b:=by
 refine⟨hn,Nat.ne_of_gt (Nat.lt_of_lt_of_le I.lt hb),I.nofs hb,.inr (Nat.le_trans I.sz hb),fun x c e z=>?_,fun p hp z=>?_⟩
 ·obtain⟨v,q⟩:=I.cell x c e
  exact absurd (Nat.lt_of_lt_of_le q.lt (by rw[z];exact hb)) (Nat.lt_irrefl _)
 ·exact absurd (Nat.lt_of_lt_of_le (Heap.lt_size (I.pin p hp).1) (by rw[z];exact hb)) (Nat.lt_irrefl _)
structure Turn(P:Program)(w:World)(K:PySem.W.Frag)(tg:Expr)(J:It)(fp:List Addr)(it:Addr)(tn:Nat->Heap->Prop):Prop where
 mem:it∈fp
 obj:∀i h,tn i h->∀b∈fp,∃o,h.get? b=some o/\∀v,o.data ≠ .cell v
 keep:∀i h h',tn i h->(∀b∈fp,∀o,h.get? b=some o->h'.get? b=some o)->tn i h'
 item:∀(X:Cx),X.prog=P->X.w=w->X.K=K->X.calm=true->∀(i:Nat)(pins:List (Addr×Obj))(s:Shared)(σ:St)(H:Hp)(E:Value->Shared->Prop),Inv X pins σ H s->(∀b∈fp,FpOk X pins H b)->tn i s.heap->J.go i H →
  wpAny (model P w) X.A (pyNext (.ref it)) (fun r s1=>∃u,r=some u ∧
   wpAny (model P w) X.A (letOwnedTupleGo tg (.ref it) u) (fun _ s2=>∃x H',Inv X pins σ H' s2/\RelV x u/\J.yld i H x H'/\tn (i + 1) s2.heap/\∀b∈fp,H' b=none) E s1) E s
 done:∀(X:Cx),X.prog=P->X.w=w->X.K=K->X.calm=true->∀(i:Nat)(pins:List (Addr×Obj))(s:Shared)(σ:St)(H:Hp)(E:Value->Shared->Prop),Inv X pins σ H s->(∀b∈fp,FpOk X pins H b)->tn i s.heap->J.stop i H →
  wpAny (model P w) X.A (pyNext (.ref it)) (fun r s1=>r=none/\Inv X pins σ H s1) E s
 self:∀(A:Around)(i:Nat)(s:Shared)(Q:Value->Shared->Prop)(E:Value->Shared->Prop),tn i s.heap->Q (.ref it) s->wpAny (model P w) A (pyIter (.ref it)) Q E s
abbrev TI:=St->Hp->(It->Hp->Prop)->Prop
def PIE(X:Cx)(pins:List (Addr×Obj))(σ:St)(tg:Expr)(R:It->Hp->Prop)(itv:Value)(s2:Shared):Prop :=
 ∃(it:Addr) (fp:List Addr) (tn:Nat->Heap->Prop) (J:It) (H':Hp),itv=.ref it/\Inv X pins σ H' s2/\Turn X.prog X.w X.K tg J fp it tn/\tn 0 s2.heap/\(∀b∈fp,FpOk X pins H' b)/\R J H'
def PI(X:Cx)(tg iter:Expr)(wi:TI):Prop :=
 ∀(pins:List (Addr×Obj))(s:Shared)(σ:St)(H:Hp)(R:It->Hp->Prop),Inv X pins σ H s->wi σ H R →
  wpAny (model X.prog X.w) X.A (eval iter X.env) (fun v s1=>wpAny (model X.prog X.w) X.A (pyIter v) (PIE X pins σ tg R) X.xe s1) X.xe s
theorem go_of {M:Model} {A:Around} {E:Value->Shared->Prop} {s:Shared} {tg:Expr} {it:Addr} {u:Value} {o:Obj} {n:String} {vs:Array Value} {Q:Unit->Shared->Prop} (ho:s.heap.get? it=some o) (hc:o.cls=.type n) (hd:o.data=.fields vs)
    (hn:["enumerate", "zip", "dict_itemiterator", "dict_reverseitemiterator", "odict_iterator", "itertools.zip_longest", "itertools.pairwise"].contains n=false) (hQ:Q () s):wpAny M A (letOwnedTupleGo tg (.ref it) u) Q E s:=by
  unfold letOwnedTupleGo
  cases tg <;> first
    | exact wpAny_pure hQ
    | (cases u<;>first
        | exact wpAny_pure hQ
        | (refine wpAny_bind (wpAny_load ho ?_)
           rw[hc,hd]
           show wpAny M A (if (["enumerate", "zip", "dict_itemiterator", "dict_reverseitemiterator", "odict_iterator", "itertools.zip_longest", "itertools.pairwise"].contains n&&vs[0]?==some (rawInt _))=true then _ else _) Q E s
           rw[if_neg (by intro h;rw[hn,Bool.false_and]at h;cases h)]
           exact wpAny_pure hQ))
def Itl(K:PySem.W.Frag)(a:Addr):It :=
 ⟨fun i H=>∃xs x,SqL K H a xs/\xs[i]?=some x,fun i H x H'=>H'=H/\∀xs,SqL K H a xs->xs[i]?=some x,fun i H=>∃xs,SqL K H a xs/\xs.length<=i⟩
def Itt(K:PySem.W.Frag)(a:Addr):It :=
 ⟨fun i H=>∃xs x,SqT K H a xs/\xs[i]?=some x,fun i H x H'=>H'=H/\∀xs,SqT K H a xs->xs[i]?=some x,fun i H=>∃xs,SqT K H a xs/\xs.length<=i⟩
def Itr(lo:Int)(n:Nat):It:=⟨fun i _=>i < n,fun i H x H'=>H'=H/\x=.int (lo + i),fun i _=>n<=i⟩
theorem turn_list{P:Program}{w:World}{K:PySem.W.Frag}{tg:Expr}(a it:Addr):Turn P w K tg (Itl K a) [it] it (fun i h=>h.IsListIter it a i) where
 mem:=by simp
 obj:=fun i h st b hb=>by
  have e:b=it:=by simpa using hb
  subst e
  obtain⟨o,e,c,d⟩:=st
  exact⟨o,e,fun v z=>by rw[d]at z;cases z⟩
 keep:=fun i h h' st k=>st.at fun o e=>k it (by simp) o e
 item:=by
  intro X hP hw hK hc i pins s σ H E I hf st hg
  subst hP hw hK
  obtain⟨xs,x,hq,hx⟩:=hg
  obtain⟨its,rv,p,hz⟩:=I.list hq
  obtain⟨u,hu,ru⟩:=rv.get hx
  obtain⟨f0,f1,f2,f3,f4,f5⟩:=hf it (by simp)
  refine wpAny_pyNext_list_item st p.isList (x:=u) (by simpa using hu) fun h' st' sb=>?_
  have I1:Inv X pins σ H {s with heap:=h' }:=I.turned (t':=s.toks) (fun b o hb e=>(sb.2 b hb).trans e) f0 f1 f3 f4 f5
  obtain⟨o,e,c,d⟩:=id st'
  exact⟨u,rfl,go_of (s:={s with heap:=h' }) e c d (by decide) ⟨x,H,I1,ru,⟨rfl,fun ys hy=>by rw[I.list_inj hy hq];exact hx⟩,st',fun b hb=>(hf b hb).1⟩⟩
 done:=by
  intro X hP hw hK hc i pins s σ H E I hf st hg
  subst hP hw hK
  obtain⟨xs,hq,hx⟩:=hg
  obtain⟨its,rv,p,hz⟩:=I.list hq
  obtain⟨f0,f1,f2,f3,f4,f5⟩:=hf it (by simp)
  have hl:=rv.length
  exact wpAny_pyNext_list_end (I.ok.hd hc) st p.isList (by simp;omega) fun h' eb=>⟨rfl,I.turned (t':=s.toks) (fun b o hb e=>eb b o hb e) f0 f1 f3 f4 f5⟩
 self:=fun _ _ _ _ _ st h=>wpAny_pyIter_listiter st h
theorem turn_tuple{P:Program}{w:World}{K:PySem.W.Frag}{tg:Expr}(a it:Addr):Turn P w K tg (Itt K a) [it] it (fun i h=>h.IsTupleIter it a i) where
 mem:=by simp
 obj:=fun i h st b hb=>by
  have e:b=it:=by simpa using hb
  subst e
  obtain⟨o,e,c,d⟩:=st
  exact⟨o,e,fun v z=>by rw[d]at z;cases z⟩
 keep:=fun i h h' st k=>st.at fun o e=>k it (by simp) o e
 item:=by
  intro X hP hw hK hc i pins s σ H E I hf st hg
  subst hP hw hK
  obtain⟨xs,x,hq,hx⟩:=hg
  obtain⟨its,rv,p,hz⟩:=I.tuple hq
  obtain⟨u,hu,ru⟩:=rv.get hx
  obtain⟨f0,f1,f2,f3,f4,f5⟩:=hf it (by simp)
  refine wpAny_pyNext_tuple_item st (show s.heap.IsTuple a its.toArray from p) (x:=u) (by simpa using hu) fun h' st' sb=>?_
  have I1:Inv X pins σ H {s with heap:=h' }:=I.turned (t':=s.toks) (fun b o hb e=>(sb.2 b hb).trans e) f0 f1 f3 f4 f5
  obtain⟨o,e,c,d⟩:=id st'
  exact⟨u,rfl,go_of (s:={s with heap:=h' }) e c d (by decide) ⟨x,H,I1,ru,⟨rfl,fun ys hy=>by rw[I.tuple_inj hy hq];exact hx⟩,st',fun b hb=>(hf b hb).1⟩⟩
 done:=by
  intro X hP hw hK hc i pins s σ H E I hf st hg
  subst hP hw hK
  obtain⟨xs,hq,hx⟩:=hg
  obtain⟨its,rv,p,hz⟩:=I.tuple hq
  obtain⟨f0,f1,f2,f3,f4,f5⟩:=hf it (by simp)
  have hl:=rv.length
  exact wpAny_pyNext_tuple_end (I.ok.hd hc) st (show s.heap.IsTuple a its.toArray from p) (by simp;omega) fun h' eb=>⟨rfl,I.turned (t':=s.toks) (fun b o hb e=>eb b o hb e) f0 f1 f3 f4 f5⟩
 self:=fun _ _ _ _ _ st h=>wpAny_pyIter_tupleiter st h
theorem turn_range{P:Program}{w:World}{K:PySem.W.Frag}{tg:Expr}(it:Addr)(lo:Int)(n:Nat):Turn P w K tg (Itr lo n) [it] it (fun i h=>IsRangeIter h it (lo + (i:Nat) * 1) ((n:Int) - (i:Nat)) 1) where
 mem:=by simp
 obj:=fun i h st b hb=>by
  have e:b=it:=by simpa using hb
  subst e
  exact⟨_,st,fun v z=>by
   have z':Data.fields _=Data.cell v:=z
   cases z'⟩
 keep:=fun i h h' st k=>k it (by simp) _ st
 item:=by
  intro X hP hw hK hc i pins s σ H E I hf st hg
  subst hP hw hK
  obtain⟨f0,f1,f2,f3,f4,f5⟩:=hf it (by simp)
  have W:=Walks.range (prog:=X.prog) (w:=X.w) (I.ok.hd hc) it lo 1 n
  refine W.item i s _ _ hg st fun v h' tk hv st' kk=>?_
  obtain⟨t,rfl⟩:=hv
  have I1:Inv X pins σ H {s with heap:=h',toks:=tk}:=I.turned (fun b o hb e=>kk b o (by simpa using hb) e) f0 f1 f3 f4 f5
  refine⟨_,rfl,go_of (s:={s with heap:=h',toks:=tk}) (n := "range_iterator") st' rfl rfl (by decide) ⟨.int (lo + i),H,I1,⟨t,?_⟩,⟨rfl,rfl⟩,st',fun b hb=>(hf b hb).1⟩⟩
  rw[Int.mul_one]
 done:=by
  intro X hP hw hK hc i pins s σ H E I hf st hg
  subst hP hw hK
  obtain⟨f0,f1,f2,f3,f4,f5⟩:=hf it (by simp)
  exact wpAny_pyNext_range_end (I.ok.hd hc) st (by have:n<=i:=hg;omega) fun h' eb=>⟨rfl,I.turned (t':=s.toks) (fun b o hb e=>eb b o hb e) f0 f1 f3 f4 f5⟩
 self:=fun _ _ _ _ _ st h=>wpAny_pyIter_rangeiter st h
end L2
namespace L2
open PySem PySem.Spec PyProof.Rows
section
variable {X:Cx} {tg:Expr}
theorem range_it{pins:List (Addr×Obj)}{σ:St}{H:Hp}{s:Shared}{R:It->Hp->Prop}{E:Value->Shared->Prop}{lo hi:Int}{t u v:Tok}{tk:Nat}(I:Inv X pins σ H s)(h1:-(2 ^ 62)<=lo)(h2:lo < 2 ^ 62)(h3:-(2 ^ 62)<=hi)(h4:hi < 2 ^ 62)
  (q:R (Itr lo (hi - lo).toNat) H):wpAny (model X.prog X.w) X.A (pyIter (.ref s.heap.objs.size)) (PIE X pins σ tg R) E {s with heap:=s.heap.push {cls:=.type "range", data:=.fields #[.int lo t,.int hi u,.int 1 v]},toks:=tk}:=by
 refine wpAny_pyIter_range (IsRange.new ..) (small_one h1 h2 h3 h4) ?_
 have I1:Inv X pins σ H {s with heap:=s.heap.push {cls:=.type "range", data:=.fields #[.int lo t,.int hi u,.int 1 v]},toks:=tk}:=I.kept fun b o e=>Heap.get?_push_of_some _ e
 refine⟨(s.heap.push {cls:=.type "range", data:=.fields #[.int lo t,.int hi u,.int 1 v]}).objs.size,[(s.heap.push {cls:=.type "range", data:=.fields #[.int lo t,.int hi u,.int 1 v]}).objs.size],_,_,H,rfl,
  I1.kept (t':=tk) fun b o e=>Heap.get?_push_of_some _ e,turn_range _ lo (hi - lo).toNat,?_,fun b hb=>?_,q⟩
 ·have e1:lo + ((0:Nat):Int) * 1=lo:=by simp
  have e2:(((hi - lo).toNat:Nat):Int) - ((0:Nat):Int)=Builtin.Range.rangeSize lo hi 1:=by rw[rangeSize_one];split<;>omega
  show IsRangeIter _ _ (lo + ((0:Nat):Int) * 1) ((((hi - lo).toNat:Nat):Int) - ((0:Nat):Int)) 1
  rw[e1,e2]
  exact Heap.get?_push_size _ rfl
 ·have e:b=(s.heap.push {cls:=.type "range", data:=.fields #[.int lo t,.int hi u,.int 1 v]}).objs.size:=by simpa using hb
  subst e
  exact I1.fpOk (Nat.le_refl _) (I1.hok.fresh (Nat.le_refl _))
def iRng1(ta:TA):TI:=fun σ H R=>ta σ H fun vs H1=>∃j:Int,vs=[.int j] /\ -(2 ^ 62)<=j/\j < 2 ^ 62/\R (Itr 0 j.toNat) H1
theorem pi_range1{a:Expr}{ta:TA}{p pos:Pos} (hg:Gl X "range") (hm:X.mg "range" = none) (ha:PA X [a] ta) (hs:starEach [a] X.env=[(false,eval a X.env)]:=by rfl):PI X tg (.Call (.Name "range" p) [a] [] pos) (iRng1 ta):=by
 intro pins s σ H R I h
 refine Call_ (ld_blt I hg hm boot_range (PyProof.Rows.callWith_type1 (thn (ha pos pins s σ H _ I h) fun us s1 ⟨vs,H1,I1,r1,q1⟩=>?_) hs rfl))
 obtain⟨j,e,q1,q2,q⟩:=q1
 subst e
 cases r1 with
 | cons r rr =>
  cases rr
  obtain⟨t,rfl⟩:=r
  exact call_range_1 (range_it I1 (by omega) (by omega) q1 q2 (by simpa using q))
def tFor(wi:TI)(g:TG)(tb:TS):TS:=fun D σ H=>wi σ H fun J H1=>∃W:Nat->Nat->St->Hp->Prop,(∃m,W 0 m σ H1)/\∀i m σ H,W i m σ H →
 (J.stop i H/\D.nx σ H)∨(J.go i H/\∃N:St->Hp->Prop,(∀σ' H',N σ' H'->∃m',m' < m/\W (i + 1) m' σ' H')/\∀x H',J.yld i H x H'->g x σ H' fun σ2 H2=>tb {D with nx:=N,ct:=N,bk:=D.nx} σ2 H2)
def pinsAt(fp:List Addr)(h:Heap):List (Addr×Obj):=fp.filterMap fun b=>(h.get? b).map fun o=>(b,o)
theorem mem_pinsAt{fp:List Addr}{h:Heap}{b:Addr}{o:Obj}(hb:b∈fp)(e:h.get? b=some o):(b,o)∈pinsAt fp h:=List.mem_filterMap.mpr ⟨b,hb,by rw[e];rfl⟩
theorem of_pinsAt{fp:List Addr}{h:Heap}{p:Addr×Obj}(hp:p∈pinsAt fp h):p.1∈fp/\h.get? p.1=some p.2:=by
 obtain⟨b,hb,e⟩:=List.mem_filterMap.mp hp
 cases q:h.get? b with
 | none=>rw[q]at e;cases e
 | some o =>
  rw[q]at e
  have e':(b,o)=p:=Option.some.inj e
  subst e'
  exact⟨hb,q⟩
theorem Inv.pinned{pins:List (Addr×Obj)}{σ:St}{H:Hp}{s:Shared}{fp:List Addr}(I:Inv X pins σ H s)(hf:∀b∈fp,FpOk X pins H b)(ho:∀b∈fp,∃o,s.heap.get? b=some o/\∀v,o.data ≠ .cell v):Inv X (pins++pinsAt fp s.heap) σ H s :=
 I.pins_of fun p hp=>(List.mem_append.mp hp).elim (fun z=>I.pin p (List.mem_append_right _ z)) fun z=>by
  obtain⟨hb,e⟩:=of_pinsAt z
  obtain⟨f0,f1,f2,_⟩:=hf p.1 hb
  obtain⟨o,e',d⟩:=ho p.1 hb
  rw[e]at e';cases e'
  exact⟨e,f0,f1,f2,d⟩
theorem Inv.unpinned{pins pl:List (Addr×Obj)}{σ:St}{H:Hp}{s:Shared}(I:Inv X (pins++pl) σ H s):Inv X pins σ H s:=I.pins_of fun p hp=>I.pin p (List.mem_append_right _ (List.mem_append_left _ hp))
theorem ps_for{iter:Expr}{body:List Stmt}{wi:TI}{g:TG}{tb:TS}{pos:Pos}(hp:PassesOwn (model X.prog X.w) X.A X.env X.xe)(hc:X.calm=true)(hi:PI X tg iter wi)(hg:PG X tg g)(hb:PSs X body tb)
  (hs:∀x,foldedSetIterable iter X.env x=pure x:=by intro _;rfl):PS X (.For tg iter body [] pos) (tFor wi g tb):=by
 intro pins s σ H D I h
 refine wpAny_For (thn (hi pins s σ H _ I h) fun v s1 h1=>thn h1 fun itv s2 h2=>?_) hs
 obtain⟨it,fp,tn,J,H2,e,I2,T,st2,f2,W,⟨m0,w0⟩,turn⟩:=h2
 subst e
 have stat:∀{H':Hp},(∀b∈fp,H' b=none)->∀b∈fp,FpOk X pins H' b:=fun hn b hb=>⟨hn b hb,(f2 b hb).2⟩
 refine codeAny_forLoop_any (fun n s'=>∃i σ' H',Inv X pins σ' H' s'/\tn i s'.heap/\(∀b∈fp,H' b=none)/\W i n σ' H') ?_ m0 ⟨0,σ,H2,I2,st2,fun b hb=>(f2 b hb).1,w0⟩
 rintro n s3 ⟨i,σ3,H3,I3,st3,fr3,w3⟩
 rcases turn i n σ3 H3 w3 with ⟨stop,qn⟩|⟨go,N,hN,step⟩
 ·refine wpAny_passesOwn hp (thn (T.done X rfl rfl rfl hc i pins s3 σ3 H3 X.xe I3 (stat fr3) st3 stop) fun r s4 ⟨hr,I4⟩=>?_)
  subst hr
  exact wpAny_execs_nil ⟨σ3,H3,I4,qn⟩
 ·refine wpAny_passesOwn hp (thn (T.item X rfl rfl rfl hc i pins s3 σ3 H3 X.xe I3 (stat fr3) st3 go) fun r s4 ⟨u,hr,h4⟩=>?_)
  subst hr
  refine wpAny_passesOwn hp (thn h4 fun _ s5 ⟨x,H5,I5,r5,y5,st5,fr5⟩=>?_)
  have I5':=I5.pinned (stat fr5) (T.obj _ _ st5)
  refine wpAny_passesOwn hp (thn (hg _ s5 σ3 H5 x u _ I5' r5 (step x H5 y5)) fun _ s6 ⟨σ6,H6,I6,q6⟩=>?_)
  refine wpAny_passesOwn hp (thn (hb _ s6 σ6 H6 _ I6 q6) fun f s7 q7=>?_)
  have again:∀{σ7:St}{H7:Hp},Inv X (pins++pinsAt fp s5.heap) σ7 H7 s7->N σ7 H7->∃m,m < n/\∃i σ' H',Inv X pins σ' H' s7/\tn i s7.heap/\(∀b∈fp,H' b=none)/\W i m σ' H':=fun {σ7 H7} I7 n7=>by
   obtain⟨m',hm,w7⟩:=hN σ7 H7 n7
   refine⟨m',hm,i + 1,σ7,H7,I7.unpinned,T.keep _ _ _ st5 fun b hb o e=>(I7.pin (b,o) (List.mem_append_right _ (List.mem_append_right _ (mem_pinsAt hb e)))).1,fun b hb=>?_,w7⟩
   obtain⟨o,e,d⟩:=T.obj _ _ st5 b hb
   exact(I7.pin (b,o) (List.mem_append_right _ (List.mem_append_right _ (mem_pinsAt hb e)))).2.1
  cases f with
  | next=>obtain⟨σ7,H7,I7,n7⟩:=q7;exact again I7 n7
  | cont=>obtain⟨σ7,H7,I7,n7⟩:=q7;exact again I7 n7
  | brk=>obtain⟨σ7,H7,I7,q7⟩:=q7;exact⟨σ7,H7,I7.unpinned,q7⟩
  | ret v=>obtain⟨x7,σ7,H7,I7,r7,q7⟩:=q7;exact⟨x7,σ7,H7,I7.unpinned,r7,q7⟩
end
end L2
namespace L2
open PySem PySem.Spec PyProof.Rows
abbrev R2:=V->V->Hp->VK->Prop
def OpR(X:Cx)(f:Value->Value->Sem Value)(r:R2):Prop :=
 ∀(pins:List (Addr×Obj))(s:Shared)(σ:St)(H:Hp)(x y:V)(v u:Value)(Q:VK),Inv X pins σ H s->RelV x v->RelV y u->r x y H Q →
  wpAny (model X.prog X.w) X.A (f v u) (EP X pins σ Q) X.xe s
def UnR(X:Cx)(f:Value->Sem Value)(r:V->Hp->VK->Prop):Prop :=
 ∀(pins:List (Addr×Obj))(s:Shared)(σ:St)(H:Hp)(x:V)(v:Value)(Q:VK),Inv X pins σ H s->RelV x v->r x H Q →
  wpAny (model X.prog X.w) X.A (f v) (EP X pins σ Q) X.xe s
def CallR(X:Cx)(f:Value)(r:List V->Hp->VK->Prop):Prop :=
 ∀(pins:List (Addr×Obj))(s:Shared)(σ:St)(H:Hp)(xs:List V)(us:List Value)(Q:VK),Inv X pins σ H s->Vals xs us->r xs H Q →
  wpAny (model X.prog X.w) X.A (call f us) (EP X pins σ Q) X.xe s
def TruR(X:Cx)(r:V->Hp->(Bool->Hp->Prop)->Prop):Prop :=
 ∀(pins:List (Addr×Obj))(s:Shared)(σ:St)(H:Hp)(x:V)(v:Value)(Q:Bool->Hp->Prop),Inv X pins σ H s->RelV x v->r x H Q →
  wpAny (model X.prog X.w) X.A (truthy v) (TP X pins σ Q) X.xe s
def tOp(r:R2)(ta tb:TE):TE:=fun σ H Q=>ta σ H fun x H1=>tb σ H1 fun y H2=>r x y H2 Q
def tUn(r:V->Hp->VK->Prop)(ta:TE):TE:=fun σ H Q=>ta σ H fun x H1=>r x H1 Q
def rI(C:Int->Int->Prop)(g:Int->Int->V):R2:=fun x y H Q=>∃i j,x=.int i/\y=.int j/\C i j/\Q (g i j) H
def rI0(g:Int->Int->V):R2:=fun x y H Q=>∃i j,x=.int i/\y=.int j/\Q (g i j) H
def rU(g:Int->V):V->Hp->VK->Prop:=fun x H Q=>∃i,x=.int i/\Q (g i) H
section
variable {X:Cx} {a b c:Expr} {ta tb tc:TE} {pos:Pos}
theorem binT(ha:PE X a ta)(hb:PE X b tb){pins:List (Addr×Obj)}{s:Shared}{σ:St}{H:Hp}{R:V->V->Hp->Prop}(I:Inv X pins σ H s)
  (h:ta σ H fun x H1=>tb σ H1 fun y H2=>R x y H2) {Q:Value->Shared->Prop} {f:Value->Value->Sem Value}
  (hf:∀v u s2 x y H2,Inv X pins σ H2 s2->RelV x v->RelV y u->R x y H2->wpAny (model X.prog X.w) X.A (f v u) Q X.xe s2) :
  wpAny (model X.prog X.w) X.A (eval a X.env) (fun v s₁=>wpAny (model X.prog X.w) X.A (eval b X.env) (fun u s₂=>wpAny (model X.prog X.w) X.A (f v u) Q X.xe s₂) X.xe s₁) X.xe s:=by
 refine thn (ha pins s σ H _ I h) fun v s1 ⟨x,H1,I1,r1,q1⟩=>?_
 refine thn (hb pins s1 σ H1 _ I1 q1) fun u s2 ⟨y,H2,I2,r2,q2⟩=>?_
 exact hf v u s2 x y H2 I2 r1 r2 q2
theorem pe_op{op:Operator}{r:R2}(ho:OpR X (binaryOp op) r)(ha:PE X a ta)(hb:PE X b tb):PE X (.BinOp a op b pos) (tOp r ta tb):=by
 intro pins s σ H Q I h
 exact wpAny_BinOp (binT ha hb I h fun v u s2 x y H2 I2 rx ry q=>ho pins s2 σ H2 x y v u Q I2 rx ry q)
theorem pe_un{op:UnaryOp}{r:V->Hp->VK->Prop}(ho:UnR X (unaryOp op) r)(ha:PE X a ta):PE X (.UnaryOp op a pos) (tUn r ta):=by
 intro pins s σ H Q I h
 exact UnaryOp_ (thn (ha pins s σ H _ I h) fun v s1 ⟨x,H1,I1,r1,q1⟩=>ho pins s1 σ H1 x v Q I1 r1 q1)
theorem opI{f:Value->Value->Sem Value}{C:Int->Int->Prop}{g:Int->Int->Int}
  (rule:∀(i j:Int)(t u:Tok)(s:Shared)(Q:Value->Shared->Prop)(E:Value->Shared->Prop),C i j->Q (.int (g i j) s.toks) {s with toks:=s.toks + 1}->wpAny (model X.prog X.w) X.A (f (.int i t) (.int j u)) Q E s) :
  OpR X f (rI C fun i j=>.int (g i j)):=by
 intro pins s σ H x y v u Q I rx ry h
 obtain⟨i,j,rfl,rfl,hc,q⟩:=h
 obtain⟨t,rfl⟩:=rx
 obtain⟨t',rfl⟩:=ry
 exact rule i j t t' s _ _ hc ⟨.int (g i j),H,I.tok _,⟨_,rfl⟩,q⟩
theorem opI0{f:Value->Value->Sem Value}{g:Int->Int->Int}
  (rule:∀(i j:Int)(t u:Tok)(s:Shared)(Q:Value->Shared->Prop)(E:Value->Shared->Prop),Q (.int (g i j) s.toks) {s with toks:=s.toks + 1}->wpAny (model X.prog X.w) X.A (f (.int i t) (.int j u)) Q E s) :
  OpR X f (rI0 fun i j=>.int (g i j)):=by
 intro pins s σ H x y v u Q I rx ry h
 obtain⟨i,j,rfl,rfl,q⟩:=h
 obtain⟨t,rfl⟩:=rx
 obtain⟨t',rfl⟩:=ry
 exact rule i j t t' s _ _ ⟨.int (g i j),H,I.tok _,⟨_,rfl⟩,q⟩
theorem opB0{f:Value->Value->Sem Value}{g:Int->Int->Bool}
  (rule:∀(i j:Int)(t u:Tok)(s:Shared)(Q:Value->Shared->Prop)(E:Value->Shared->Prop),Q (.bool (g i j)) s->wpAny (model X.prog X.w) X.A (f (.int i t) (.int j u)) Q E s) :
  OpR X f (rI0 fun i j=>.bl (g i j)):=by
 intro pins s σ H x y v u Q I rx ry h
 obtain⟨i,j,rfl,rfl,q⟩:=h
 obtain⟨t,rfl⟩:=rx
 obtain⟨t',rfl⟩:=ry
 exact rule i j t t' s _ _ ⟨.bl (g i j),H,I,rfl,q⟩
def CPow(i j:Int):Prop:=0<=j/\j<=1000000/\i.natAbs < 2 ^ 64
def CMul(i j:Int):Prop:=(-(2 ^ 64) < i/\i < 2 ^ 64)∨(-(2 ^ 64) < j/\j < 2 ^ 64)
theorem CMul.ok{i j:Int}(h:CMul i j):IntMulOk i j:=by
 rcases h with ⟨h1,h2⟩|⟨h1,h2⟩
 ·exact .of_left (intBits_le_64 h1 h2)
 ·exact .of_right (intBits_le_64 h1 h2)
theorem op_add:OpR X (binaryOp .Add) (rI0 fun i j=>.int (i + j)):=opI0 fun _ _ _ _ _ _ _ q=>add_int q
theorem op_sub:OpR X (binaryOp .Sub) (rI0 fun i j=>.int (i - j)):=opI0 fun _ _ _ _ _ _ _ q=>sub_int q
theorem op_modN:OpR X (binaryOp .Mod) (rI (fun _ j=>j≠0) fun i j=>.int (i.fmod j)):=opI fun _ _ _ _ _ _ _ hc q=>mod_int' hc q
theorem op_pow:OpR X (binaryOp .Pow) (rI CPow fun i j=>.int (i ^ j.toNat)):=opI fun _ _ _ _ _ _ _ hc q=>pow_int_small hc.1 hc.2.1 hc.2.2 q
theorem unI{f:Value->Sem Value}{g:Int->Int}
  (rule:∀(i:Int)(t:Tok)(s:Shared)(Q:Value->Shared->Prop)(E:Value->Shared->Prop),Q (.int (g i) s.toks) {s with toks:=s.toks + 1}->wpAny (model X.prog X.w) X.A (f (.int i t)) Q E s) :
  UnR X f (rU fun i=>.int (g i)):=by
 intro pins s σ H x v Q I rx h
 obtain⟨i,rfl,q⟩:=h
 obtain⟨t,rfl⟩:=rx
 exact rule i t s _ _ ⟨.int (g i),H,I.tok _,⟨_,rfl⟩,q⟩
theorem un_neg:UnR X (unaryOp .USub) (rU fun i=>.int (-i)):=unI fun _ _ _ _ _ q=>neg_int q
end
section
variable {X:Cx} {a b c:Expr} {ta tb tc:TE} {pos:Pos}
theorem op_lt:OpR X (compareOp .Lt) (rI0 fun i j=>.bl (decide (i < j))):=opB0 fun _ _ _ _ _ _ _ q=>lt_int q
theorem op_gt:OpR X (compareOp .Gt) (rI0 fun i j=>.bl (decide (j < i))):=opB0 fun _ _ _ _ _ _ _ q=>gt_int q
theorem op_ge:OpR X (compareOp .GtE) (rI0 fun i j=>.bl (decide (j<=i))):=opB0 fun _ _ _ _ _ _ _ q=>ge_int q
theorem OpR.or{f:Value->Value->Sem Value}{r r':R2}(h:OpR X f r)(h':OpR X f r'):OpR X f (fun x y H Q=>r x y H Q∨r' x y H Q):=by
 intro pins s σ H x y v u Q I rx ry q
 rcases q with q|q
 ·exact h pins s σ H x y v u Q I rx ry q
 ·exact h' pins s σ H x y v u Q I rx ry q
theorem nomark(b:Expr){op:CmpOp}(h:op ≠ .In:=by decide)(h2:op ≠ .NotIn:=by decide):behindInMarks op b=false:=by
 have e1:(op==CmpOp.In)=false:=by cases op<;>first|rfl|exact absurd rfl h
 have e2:(op==CmpOp.NotIn)=false:=by cases op<;>first|rfl|exact absurd rfl h2
 cases b<;>simp[behindInMarks,e1,e2]
theorem pe_cmpR{op:CmpOp}{r:R2}(ho:OpR X (compareOp op) r)(ha:PE X a ta)(hb:PE X b tb)(hm:behindInMarks op b=false):PE X (.Compare a [op] [b] pos) (tOp r ta tb):=by
 intro pins s σ H Q I h
 exact wpAny_Compare1 (binT ha hb I h fun v u s2 x y H2 I2 rx ry q=>ho pins s2 σ H2 x y v u Q I2 rx ry q) hm
def tTest(t:TE):TT:=fun σ H Q=>t σ H fun x H'=>∃k,x=.bl k/\Q k H'
theorem pt_cmpR{op:CmpOp}{r:R2}(ho:OpR X (compareOp op) r)(ha:PE X a ta)(hb:PE X b tb)(hm:behindInMarks op b=false):PT X (.Compare a [op] [b] pos) (tTest (tOp r ta tb)):=by
 intro pins s σ H Q I h
 refine wpAny_isTrue_Compare1 (thn (ha pins s σ H _ I h) fun v s1 ⟨x,H1,I1,r1,q1⟩=>thn (hb pins s1 σ H1 _ I1 q1) fun u s2 ⟨y,H2,I2,r2,q2⟩ =>
  thn (ho pins s2 σ H2 x y v u _ I2 r1 r2 q2) fun c s3 ⟨z,H3,I3,r3,k,e,q3⟩=>?_) hm
 subst e
 cases r3
 exact wpAny_truthy_bool ⟨H3,I3,q3⟩
def TruV(K:PySem.W.Frag)(x:V)(H:Hp)(k:Bool):Prop :=
 match x with
 | .non=>k=false
 | .bl b=>k=b
 | .int i=>k=(i != 0)
 | .str y=>y.length<=sizeLine/\k=((y.length:Int) != 0)
 | .byt y=>y.size<=sizeLine/\k=((y.size:Int) != 0)
 | .ref p=>(∃xs,SqL K H p xs/\k=!xs.isEmpty)∨(∃xs,SqT K H p xs/\k=!xs.isEmpty)∨∃kvs,H p=some (.dK kvs)/\k=!kvs.isEmpty
 | _=>False
theorem isEmpty_kv{κ:Type}{kvs:List (κ×V)}{vs:List (κ×Value)}(r:KV kvs vs):(!vs.isEmpty)=!kvs.isEmpty:=by
 cases r<;>rfl
theorem isEmpty_of{xs:List V}{its:List Value}(r:Vals xs its):(!its.toArray.isEmpty)=!xs.isEmpty:=by
 cases r<;>simp
theorem line63:(sizeLine:Nat) < 2 ^ 63:=by rw[sizeLine_eq];decide
theorem tru_ok:TruR X (fun x H Q=>∃k,TruV X.K x H k/\Q k H):=by
 intro pins s σ H x v Q I rx h
 obtain⟨k,e,q⟩:=h
 have hl:=line63
 have hs:sizeLine=16777216:=sizeLine_eq
 cases x with
 | non =>
  cases rx
  have e':k=false:=e
  subst e'
  exact truthy_none ⟨H,I,q⟩
 | bl b =>
  cases rx
  have e':k=b:=e
  subst e'
  exact wpAny_truthy_bool ⟨H,I,q⟩
 | int i =>
  obtain⟨t,rfl⟩:=rx
  have e':k=(i != 0):=e
  subst e'
  exact PySem.P.truthy_int ⟨H,I,q⟩
 | str y =>
  obtain⟨t,rfl⟩:=rx
  obtain⟨hy,e'⟩:y.length<=sizeLine/\k=((y.length:Int) != 0):=e
  subst e'
  exact PySem.P.truthy_str (by omega) ⟨H,I.tok _,q⟩
 | byt y =>
  obtain⟨t,rfl⟩:=rx
  obtain⟨hy,e'⟩:y.size<=sizeLine/\k=((y.size:Int) != 0):=e
  subst e'
  exact PySem.W.truthy_bytes (by omega) ⟨H,I.tok _,q⟩
 | ref p =>
  cases rx
  have e':(∃xs,SqL X.K H p xs/\k=!xs.isEmpty)∨(∃xs,SqT X.K H p xs/\k=!xs.isEmpty)∨∃kvs,H p=some (.dK kvs)/\k=!kvs.isEmpty:=e
  rcases e' with ⟨xs,hx,e'⟩|⟨xs,hx,e'⟩|⟨kvs,hx,e'⟩
  ·subst e'
   obtain⟨its,r,pl,hz⟩:=I.list hx
   have hlen:=r.length
   exact wpAny_truthy_list pl.isList (by simp only[List.size_toArray];omega) ⟨H,I.tok _,by rw[isEmpty_of r];exact q⟩
  ·subst e'
   obtain⟨its,r,pl,hz⟩:=I.tuple hx
   have hlen:=r.length
   exact truthy_tuple pl (by simp only[List.size_toArray];omega) ⟨H,I.tok _,by rw[isEmpty_of r];exact q⟩
  ·subst e'
   obtain⟨hz,hS,vs,r,m⟩:kvs.length<=sizeLine/\(p==sysModules)=false/\∃vs,KV kvs vs/\s.heap.DictOf (mixKind X.prog X.w) p vs:=I.hok p _ hx
   have hlen:kvs.length=vs.length:=Paired.length r
   exact wpAny_truthy_dict hS m (by omega) ⟨H,I.tok _,by rw[isEmpty_kv r];exact q⟩
 | _=>exact(show False from e).elim
theorem pt_truth(ha:PE X a ta)(he:∀whole,isTrue a X.env whole=(do let v ← whole;standAt a.pos;holding [v] (truthy v))) :
  PT X a (fun σ H Q=>ta σ H fun x H'=>∃k,TruV X.K x H' k/\Q k H'):=by
 intro pins s σ H Q I h
 exact isTrue_plain (thn (ha pins s σ H _ I h) fun v s1 ⟨x,H1,I1,r1,q1⟩=>tru_ok pins s1 σ H1 x v Q I1 r1 q1) (he _)
theorem op_add_str:OpR X (binaryOp .Add) (fun x y H Q=>∃i j,x=.str i/\y=.str j/\i.length + j.length<=sizeLine/\Q (.str (i++j)) H):=by
 intro pins s σ H x y v u Q I rx ry h
 obtain⟨i,j,rfl,rfl,hz,q⟩:=h
 obtain⟨t,rfl⟩:=rx
 obtain⟨t',rfl⟩:=ry
 exact add_str (fun t' tk=>⟨.str (i++j),H,I.tok _,⟨_,rfl⟩,q⟩) hz
theorem vals1{x:V}{us:List Value}(r:Vals [x] us):∃u,us=[u]/\RelV x u:=by
 cases r with
 | cons r1 r2=>cases r2;exact⟨_,rfl,r1⟩
theorem vals2{x y:V}{us:List Value}(r:Vals [x,y] us):∃u w',us=[u,w']/\RelV x u/\RelV y w':=by
 cases r with
 | cons r1 r2 =>
  cases r2 with
  | cons r3 r4=>cases r4;exact⟨_,_,rfl,r1,r3⟩
theorem call_abs:CallR X (.builtin "abs") (fun xs H Q=>∃i,xs=[.int i]/\Q (.int (if i < 0 then -i else i)) H):=by
 intro pins s σ H xs us Q I r h
 obtain⟨i,rfl,q⟩:=h
 obtain⟨u,rfl,t,rfl⟩:=vals1 r
 exact call_abs_int fun u tk=>⟨.int (if i < 0 then -i else i),H,I.tok _,⟨_,rfl⟩,q⟩
end
end L2
namespace L2
open PySem PySem.Spec PyProof.Rows
structure ObjM(h:Heap)(x dx C:Addr)(mA:Str->Option Value):Prop where
 obj:h.get? x=some (PySem.W.instObj C dx)
 ns:h.Ns1 dx mA
 ne:dx≠x
theorem lookIn_ns{h:Heap}{dx:Addr}{mA:Str->Option Value}(n:h.Ns1 dx mA):∃od,h.get? dx=some od/\∀name,PySem.W.lookIn name od=some (mA name):=by
 obtain⟨o,es,ep,ho,hd,hk,_,hm⟩:=n
 refine⟨o,ho,fun name=>?_⟩
 have e:=hm name
 unfold nsFind findBy at e
 rw[← Array.find?_toList]at e
 unfold PySem.W.lookIn
 rw[hd]
 dsimp only
 split
 ·rename_i y q
  rw[q]at e
  exact congrArg some e
 ·rename_i q
  rw[q]at e
  have a:es.toList.any (·.refKey)=false:=by
   rw[List.any_eq_false]
   intro y hy
   obtain⟨z,t,hkey⟩:=hk y (Array.mem_toList_iff.mp hy)
   simp[DictEntry.refKey,hkey]
  have a':¬ es.toList.any (·.refKey)=true:=by rw[a];exact Bool.false_ne_true
  rw[if_neg a']
  exact congrArg some e
theorem ObjM.look{h:Heap}{x dx C:Addr}{mA:Str->Option Value}(I:ObjM h x dx C mA):∃od,PySem.W.InstAt h x (PySem.W.instObj C dx) C (some od)/\∀name,PySem.W.lookIn name od=some (mA name) :=
 let ⟨od,ho,hl⟩:=lookIn_ns I.ns
 ⟨od,⟨I.obj,rfl,rfl,ho⟩,hl⟩
section
variable {prog:Program} {w:World} {A:Around} {E:Value->Shared->Prop} {s:Shared} {K:PySem.W.Frag} {x dx C f:Addr} {mA:Str->Option Value} {name:Str} {v:Value}
end
section
variable {P:Program} {w:World} {H H':Hp} {h h':Heap} {a C dx:Addr} {fs fs':List (Str×V)}
end
structure Cls(K:PySem.W.Frag)(C:Addr):Prop where
 pg:PySem.W.plainGet K C Str.empty=true
 hd:PySem.W.hasDictIn K C=true
 po:PySem.W.plainOver K C=true
 sa:PySem.W.findIn K (.ref C) "__setattr__" = some (some (.builtin "object.__setattr__"))
theorem Cls.get{K:PySem.W.Frag}{C:Addr}(c:Cls K C)(f:Str):PySem.W.plainGet K C f=true:=c.pg
structure Con(K:PySem.W.Frag)(C:Addr)(f:Str)(v:V)(u:Value):Prop where
 at_:PySem.W.findIn K (.ref C) f=some (some u)
 rel:RelV v u
 get:PySem.W.specialIn K u "__get__" = some none
 cp:PySem.W.copiedNames.contains f=false
structure Meth(K:PySem.W.Frag)(C:Addr)(m:Str)(f:Addr):Prop where
 at_:PySem.W.findIn K (.ref C) m=some (some (.ref f))
 fn:PySem.W.isFn K (.ref f)=true
 kp:PySem.W.keepIn K (.ref f)=true
section
variable {X:Cx} {pins:List (Addr×Obj)} {σ:St} {H:Hp} {s:Shared} {a C dx:Addr} {fs:List (Str×V)} {f:Str} {v:V} {A:Around} {E:Value->Shared->Prop}
end
section
variable {X:Cx} {o e value:Expr} {f:Str} {pos pos' tpos:Pos} {ta tv:TE}
end
section
variable {X:Cx} {pins:List (Addr×Obj)} {σ:St} {H:Hp} {s:Shared} {A:Around} {E:Value->Shared->Prop} {Q:Value->Shared->Prop} {c:Value} {b:Bool}
inductive TyOf (K:PySem.W.Frag) (H:Hp):V->Value->Prop where
 | non:TyOf K H .non (.type "NoneType")
 | bl (x:Bool):TyOf K H (.bl x) (.type "bool")
 | int (i:Int):TyOf K H (.int i) (.type "int")
 | str (x:Str):TyOf K H (.str x) (.type "str")
 | flt (x:UInt64):TyOf K H (.flt x) (.type "float")
 | lst {a:Addr} {xs:List V} (e:H a=some (.lst xs)):TyOf K H (.ref a) (.type "list")
 | frz {a:Addr} {o:Obj} {xs:List V} (e:H a=some (.frz o (.lst xs))):TyOf K H (.ref a) (.type "list")
 | tup {a:Addr} {xs:List V} (e:H a=some (.tup xs)):TyOf K H (.ref a) (.type "tuple")
 | dK {a:Addr} {kvs:List (Key×V)} (e:H a=some (.dK kvs)):TyOf K H (.ref a) (.type "dict")
 | dT {a:Addr} {kvs:List (List Key×V)} (e:H a=some (.dT kvs)):TyOf K H (.ref a) (.type "dict")
 | ins {a C dx:Addr} {fs:List (Str×V)} (e:H a=some (.ins C dx fs)) (cl:Cls K C) (ha:PySem.W.findIn K (.ref C) "__class__" = some (some (.builtin "object.__class__")))
   (hn:PySem.W.specialIn K (.builtin "object.__class__") "__get__" = some (some (.builtin "getset_descriptor.__get__"))) (htk:PySem.W.takesIn K (.builtin "object.__class__")=some true)
   (hm:PySem.W.mroIn K C (.type "object")=some true):TyOf K H (.ref a) (.ref C)
end
end L2
namespace L2
open PySem PySem.Spec PyProof.Rows
structure Room(k:Nat)(A:Around):Prop where
 hd:A.handled=none
 dp:A.depth + 3 * k + 5 < recursionLimit
 un:A.units + 16 * k + 200 < cLine
theorem Room.mono{j k:Nat}{A:Around}(r:Room k A)(h:j<=k):Room j A:=⟨r.hd,by have:=r.dp;omega,by have:=r.un;omega⟩
theorem Room.deeper{k:Nat}{A:Around}(r:Room (k + 1) A)(env:Env):Room k (A.deeper env) :=
 ⟨r.hd,by have:=r.dp;show A.depth + 1 + 3 * k + 5 < _;omega,by have:=r.un;show A.units + 3 + 16 * k + 200 < _;omega⟩
theorem Room.depth{k:Nat}{A:Around}(r:Room k A):A.depth < recursionLimit:=by have:=r.dp;omega
theorem Room.units{k:Nat}{A:Around}(r:Room k A):A.units + 64 < cLine:=by have:=r.un;omega
def tNil:TA:=fun _ H Q=>Q [] H
def tCons(ta:TE)(tr:TA):TA:=fun σ H Q=>ta σ H fun x H1=>tr σ H1 fun xs H2=>Q (x::xs) H2
section
variable {X:Cx} {e:Expr} {es:List Expr} {te:TE} {t:TA} {pos:Pos}
theorem pa_nil:PA X [] tNil:=fun _ _ _ _ H Q I h=>Calls.spliced_nil ⟨[],H,I,.nil,h⟩
theorem pa_cons(ha:PE X e te)(hr:PA X es t)(hs:starEach (e::es) X.env=(false,eval e X.env)::starEach es X.env:=by rfl):PA X (e::es) (tCons te t):=by
 intro pos pins s σ H Q I h
 rw[hs]
 show wpAny _ _ (spliced ((false,eval e X.env)::backTo pos (starEach es X.env))) _ _ s
 refine Calls.spliced_cons (thn (ha pins s σ H _ I h) fun u s1 ⟨x,H1,I1,r1,q1⟩=>?_)
 exact thn (hr pos pins s1 σ H1 _ I1 q1) fun us s2 ⟨xs,H2,I2,r2,q2⟩=>⟨x::xs,H2,I2,.cons r1 r2,q2⟩
def tTup(t:TA):TE:=fun σ H Q=>t σ H fun xs H1=>xs.length<=sizeLine/\∀p,H1 p=none->Q (.ref p) (upd H1 p (.tup xs))
def tLst(t:TA):TE:=fun σ H Q=>t σ H fun xs H1=>xs.length<=sizeLine/\∀p,H1 p=none->Q (.ref p) (upd H1 p (.lst xs))
theorem pe_tup{x1}(h:PA X es t):PE X (.Tuple es x1 pos) (tTup t):=by
 intro pins s σ H Q I hq
 refine wpAny_Tuple_spliced (thn (h pos pins s σ H _ I hq) fun us s1 ⟨xs,H1,I1,r,z,q⟩=>⟨by rw[← r.length];exact z,?_⟩)
 have hf:H1 s1.heap.objs.size=none:=I1.hok.fresh (Nat.le_refl _)
 refine⟨.ref s1.heap.objs.size,upd H1 s1.heap.objs.size (.tup xs),I1.laid (t':=s1.toks) (fun b u e=>Heap.get?_push_of_some _ e) (Nat.le_refl _) ?_,rfl,q _ hf⟩
 exact⟨z,us,r,⟨_,Heap.get?_push_size _ rfl,rfl,_,rfl⟩⟩
theorem pe_lst(h:PA X es t):PE X (.List es pos) (tLst t):=by
 intro pins s σ H Q I hq
 refine wpAny_List_spliced (thn (h pos pins s σ H _ I hq) fun us s1 ⟨xs,H1,I1,r,z,q⟩=>⟨by rw[← r.length];exact z,?_⟩)
 have hf:H1 s1.heap.objs.size=none:=I1.hok.fresh (Nat.le_refl _)
 refine⟨.ref s1.heap.objs.size,upd H1 s1.heap.objs.size (.lst xs),I1.laid (t':=s1.toks) (fun b u e=>Heap.get?_push_of_some _ e) (Nat.le_refl _) ?_,rfl,q _ hf⟩
 exact⟨z,us,0,r,Heap.get?_push_size _ rfl⟩
end
abbrev Sp:=List V->Hp->VK->XK->Prop
abbrev CXT:=List Env->Hp->Shared->XK->Value->Shared->Prop
structure Env0(P:Program)(w:World)(K:PySem.W.Frag)(mg:Str->Option Value)(base:Heap)(A:Around)(outer:List Env)(s:Shared)(H:Hp):Prop where
 frames:A.frames=some outer
 mod:Mod K mg base
 bs:∀b o,base.get? b=some o->s.heap.get? b=some o/\H b=none
 bsz:base.objs.size<=s.heap.objs.size
 funs:s.heap.FunFrames base outer
 frf:∀b∈frs outer,H b=none
 hok:HOk P w H s.heap
 bare:AllBare s.gens
def CE(outer:List Env)(P:Program)(w:World)(H:Hp)(s:Shared)(Q:VK)(u:Value)(s':Shared):Prop :=
 ∃v H',s'.os=s.os/\AllBare s'.gens/\Un (frs outer) [] H H' s.heap s'.heap/\HOk P w H' s'.heap/\RelV v u/\Q v H'
def CR(CX:CXT)(outer:List Env)(P:Program)(w:World)(H:Hp)(s:Shared)(Q:VK)(E:XK)(r:Result)(s':Shared):Prop :=
 match r with
 | .ok (.ret u)=>CE outer P w H s Q u s'
 | .ok _=>False
 | .error e=>CX outer H s E e s'
structure FnOk(P:Program)(w:World)(K:PySem.W.Frag)(mg:Str->Option Value)(base:Heap)(CX:CXT)(k:Nat)(f:Addr)(fd:FuncData)(ps:List Str)(sp:Sp):Prop where
 len:∀vs H Q E,sp vs H Q E->vs.length=ps.length
 run:∀(A:Around)(outer:List Env)(s:Shared)(H:Hp)(args:Args)(us:List Value)(vs:List V)(Q:VK)(E:XK),Room k A->Env0 P w K mg base A outer s H->BindsTo s fd args (ps.zip us)->Vals vs us->sp vs H Q E →
  codeAny (model P w) A (.call (.ref f) args) (CR CX outer P w H s Q E) s
theorem FnOk.mono{P:Program}{w:World}{K:PySem.W.Frag}{mg:Str->Option Value}{base:Heap}{CX:CXT}{j k:Nat}{f:Addr}{fd:FuncData}{ps:List Str}{sp:Sp}(F:FnOk P w K mg base CX j f fd ps sp)(h:j<=k) :
  FnOk P w K mg base CX k f fd ps sp:=⟨F.len,fun A outer s H args us vs Q E hr=>F.run A outer s H args us vs Q E (hr.mono h)⟩
theorem FnOk.imp{P:Program}{w:World}{K:PySem.W.Frag}{mg:Str->Option Value}{base:Heap}{CX:CXT}{k:Nat}{f:Addr}{fd:FuncData}{ps:List Str}{sp sp':Sp}(F:FnOk P w K mg base CX k f fd ps sp)
  (h:∀vs H Q E,sp' vs H Q E->sp vs H Q E):FnOk P w K mg base CX k f fd ps sp' :=
 ⟨fun vs H Q E q=>F.len vs H Q E (h _ _ _ _ q),fun A outer s H args us vs Q E hr he hb hv hs=>F.run A outer s H args us vs Q E hr he hb hv (h _ _ _ _ hs)⟩
section
variable {X:Cx} {pins:List (Addr×Obj)} {σ:St} {H:Hp} {s s':Shared}
theorem Inv.env0(I:Inv X pins σ H s):Env0 X.prog X.w X.K X.mg X.base X.A X.stack s H :=
 ⟨I.ok.frames,I.ok.mod,I.bs,Nat.le_trans I.ok.bsz I.sz,I.stack,I.stkFree,I.hok,I.bare⟩
theorem Inv.after{Q:VK}{u:Value}(I:Inv X pins σ H s)(h:CE X.stack X.prog X.w H s Q u s'):EP X pins σ Q u s':=by
 obtain⟨v,H',os,bare,un,hok,r,q⟩:=h
 obtain⟨hh,g,d,t,os'⟩:=s'
 obtain rfl:os'=s.os:=os
 exact⟨v,H',I.call (h':=hh) (g':=g) (d':=d) (t':=t) (ch:=[]) un hok bare (fun b z=>absurd z (by simp)),r,q⟩
end
def tCall(sp:Sp)(dvs:List V)(E:XK)(t:TA):TE:=fun σ H Q=>t σ H fun vs H1=>sp (vs++dvs) H1 Q E
def Binds(K:PySem.W.Frag)(fd:FuncData)(ps:List Str)(ds:List Value):Prop :=
 ∀(s:Shared)(us:List Value),K.In s.heap->(us++ds).length=ps.length->BindsTo s fd ⟨us,[]⟩ (ps.zip (us++ds))
theorem Binds.all{K:PySem.W.Frag}{fd:FuncData}{ps:List Str}(h:∀us:List Value,us.length=ps.length->bindArgs fd ⟨us,[]⟩=pure (ps.zip us)):Binds K fd ps []:=fun s us _ hl=>by
 rw[List.append_nil]at hl ⊢
 exact .of_eq (h us hl)
def Passes(CX:CXT)(X:Cx)(E:XK):Prop:=∀(pins:List (Addr×Obj))(σ:St)(H:Hp)(s:Shared)(e:Value)(s':Shared),Inv X pins σ H s->CX X.stack H s E e s'->X.xe e s'
section
variable {X:Cx} {CX:CXT} {k:Nat} {f C:Addr} {fd:FuncData} {ps:List Str} {sp:Sp} {dvs:List V} {ds:List Value} {E:XK} {x m:Str} {p pos apos:Pos} {e o:Expr} {es:List Expr} {ta:TE} {t:TA}
theorem run_fn{pins:List (Addr×Obj)}{σ:St}{H:Hp}{s:Shared}{Q:VK}{us:List Value}{vs:List V}(F:FnOk X.prog X.w X.K X.mg X.base CX k f fd ps sp)(hr:Room k X.A)(hb:Binds X.K fd ps ds)(hd:Vals dvs ds)(hx:Passes CX X E)
  (I:Inv X pins σ H s) (r:Vals vs us) (h:sp (vs++dvs) H Q E):wpAny (model X.prog X.w) X.A (call (.ref f) us) (EP X pins σ Q) X.xe s:=by
 have r2:Vals (vs++dvs) (us++ds):=r.append hd
 have hl:(us++ds).length=ps.length:=by rw[← r2.length];exact F.len _ _ _ _ h
 refine wpAny_call (codeAny_mono (F.run X.A X.stack s H ⟨us,[]⟩ (us++ds) (vs++dvs) Q E hr I.env0 (hb s us I.kIn hl) r2 h) fun r s' hq=>?_)
 cases r with
 | error e=>exact hx pins σ H s e s' I hq
 | ok fl =>
  cases fl with
  | ret u=>exact I.after hq
  | next=>exact False.elim hq
  | brk=>exact False.elim hq
  | cont=>exact False.elim hq
theorem pe_call(F:FnOk X.prog X.w X.K X.mg X.base CX k f fd ps sp)(hr:Room k X.A)(hg:Gl X x)(hm:X.mg x=some (.ref f))(hk:PySem.W.keepIn X.K (.ref f)=true)(hb:Binds X.K fd ps ds)(hd:Vals dvs ds)(hx:Passes CX X E)
  (ha:PA X (e::es) t) (hdb:(x==("__debug__" : Str))=false:=by decide) (he:starEach (e::es) X.env=(false,eval e X.env)::starEach es X.env:=by rfl) (hpl:(backTo pos (starEach es X.env)).any (·.1)=false:=by rfl) :
  PE X (.Call (.Name x p) (e::es) [] pos) (tCall sp dvs E t):=by
 intro pins s σ H Q I h
 refine wpAny_Call_Name_kw (ld_glob I hg hm ?_ hdb)
 refine PySem.W.callWith_K (h₀:=X.base) I.ok.mod.kin hk (thn (ha pos pins s σ H _ I h) fun us s1 ⟨vs,H1,I1,r,q⟩=>⟨I1.kIn,?_⟩) he hpl
 exact run_fn F hr hb hd hx I1 r q
structure Mk(K:PySem.W.Frag)(C f:Addr):Prop where
 makes:PySem.W.makesIn K C=true
 init:PySem.W.findIn K (.ref C) "__init__" = some (some (.ref f))
 fn:PySem.W.isFn K (.ref f)=true
 kp:PySem.W.keepIn K (.ref C)=true
end
section
variable {X:Cx} {CX:CXT} {k:Nat} {f C:Addr} {fd:FuncData} {ps ks:List Str} {sp:Sp} {E:XK} {x m:Str} {p pos apos kpos:Pos} {e o:Expr} {es:List Expr} {kws:List Keyword} {te ta:TE} {t tk:TA} {nm:Option Str}
structure KBinds(K:PySem.W.Frag)(fd:FuncData)(ps ks:List Str)(g:List Value->List Value->List Value)(gV:List V->List V->List V):Prop where
 to:∀(s:Shared)(us ws:List Value),K.In s.heap->(g us ws).length=ps.length->BindsTo s fd ⟨us,ks.zip ws⟩ (ps.zip (g us ws))
 rel:∀{vs:List V}{us:List Value}{zs:List V}{ws:List Value},Vals vs us->Vals zs ws->Vals (gV vs zs) (g us ws)
variable {g:List Value->List Value->List Value} {gV:List V->List V->List V}
end
structure FnScope(N P:List Str)(sc:Scope):Prop where
 kind:sc.kind=.function
 co:sc.isCoroutine=false
 gen:sc.isGenerator=false
 nd:N.Nodup
 pre:N.take P.length=P
 par:∀x∈P,sc.names.lookup x=some .local∨sc.names.lookup x=some .cell
 nofree:∀y∈sc.names,y.2 ≠ .free
theorem bindL_out{kindOf:Str->Option NameKind}{x:Str}:∀{binds:List (Str×Value)}{m:Str->Option Value},(∀v,(x,v)∉binds)->bindL kindOf binds m x=m x
 | [],_,_=>rfl
 | (n,v)::r,m,h=>by
  unfold bindL
  rw[bindL_out fun w hw=>h w (List.mem_cons_of_mem _ hw)]
  split
  ·have:x≠n:=by rintro rfl;exact h v List.mem_cons_self
   simp[this]
  ·rfl
theorem bindC_out{kindOf:Str->Option NameKind}{x:Str}:∀{binds:List (Str×Value)}{m:Str->Option Value},(∀v,(x,v)∉binds)->bindC kindOf binds m x=m x
 | [],_,_=>rfl
 | (n,v)::r,m,h=>by
  unfold bindC
  rw[bindC_out fun w hw=>h w (List.mem_cons_of_mem _ hw)]
  split
  ·rfl
  ·have:x≠n:=by rintro rfl;exact h v List.mem_cons_self
   simp[this]
theorem bindL_get{kindOf:Str->Option NameKind}{x:Str}{v:Value}:∀{P:List Str}{vs:List Value}{i:Nat}{m:Str->Option Value},P.Nodup->P[i]?=some x->vs[i]?=some v->kindOf x=some .local →
  bindL kindOf (P.zip vs) m x=some v
 | [],_,_,_,_,h,_,_=>by simp at h
 | _::_,[],_,_,_,_,h,_=>by simp at h
 | p::P,w::vs,0,m,nd,h1,h2,hk=>by
  simp at h1 h2;subst h1;subst h2
  show bindL kindOf ((p,w)::P.zip vs) m p=_
  unfold bindL
  rw[bindL_out fun v hv=>(List.nodup_cons.mp nd).1 (List.of_mem_zip hv).1,if_pos hk]
  simp
 | p::P,w::vs,i + 1,m,nd,h1,h2,hk=>by
  show bindL kindOf ((p,w)::P.zip vs) m x=_
  unfold bindL
  exact bindL_get (i:=i) (List.nodup_cons.mp nd).2 (by simpa using h1) (by simpa using h2) hk
theorem bindC_get{kindOf:Str->Option NameKind}{x:Str}{v:Value}:∀{P:List Str}{vs:List Value}{i:Nat}{m:Str->Option Value},P.Nodup->P[i]?=some x->vs[i]?=some v->kindOf x≠some .local →
  bindC kindOf (P.zip vs) m x=some v
 | [],_,_,_,_,h,_,_=>by simp at h
 | _::_,[],_,_,_,_,h,_=>by simp at h
 | p::P,w::vs,0,m,nd,h1,h2,hk=>by
  simp at h1 h2;subst h1;subst h2
  show bindC kindOf ((p,w)::P.zip vs) m p=_
  unfold bindC
  rw[bindC_out fun v hv=>(List.nodup_cons.mp nd).1 (List.of_mem_zip hv).1,if_neg hk]
  simp
 | p::P,w::vs,i + 1,m,nd,h1,h2,hk=>by
  show bindC kindOf ((p,w)::P.zip vs) m x=_
  unfold bindC
  exact bindC_get (i:=i) (List.nodup_cons.mp nd).2 (by simpa using h1) (by simpa using h2) hk
def start(N:List Str)(vs:List V):St:=vs.map some++List.replicate (N.length - vs.length) none
def cxOf(CX:CXT)(P:Program)(w:World)(K:PySem.W.Frag)(mg:Str->Option Value)(base:Heap)(N:List Str)(qual:Str)(scope:Scope)(f:Addr)(cd:Value)(A:Around)(outer:List Env)(s:Shared)(H:Hp)(E:XK):Cx where
 prog:=P
 w:=w
 K:=K
 mg:=mg
 base:=base
 A:=A.deeper (envOfC qual scope s.heap.objs.size f cd)
 N:=N
 s₀:=s
 H₀:=H
 env:=envOfC qual scope s.heap.objs.size f cd
 outer:=outer
 stack:=envOfC qual scope s.heap.objs.size f cd::outer
 ex:=[]
 calm:=true
 fn:=fun _=>true
 pn:=[]
 xe:=fun e s'=>wpAny (model P w) (A.deeper (envOfC qual scope s.heap.objs.size f cd)) (leaving (envOfC qual scope s.heap.objs.size f cd) e) (fun _ s''=>CX outer H s E e s'') (fun e' s''=>CX outer H s E e' s'') s'
theorem cell_has{sc:Scope}{n:Nat}{x:Str}(h:sc.names.lookup x=some .cell):∃c,(cellsFrom n sc.names []).lookup x=some c:=by
 have q:=PySem.W.cellsFrom_some sc.names n [] (.inl h)
 exact Option.isSome_iff_exists.mp q
theorem inv_start{CX:CXT}{P:Program}{w:World}{K:PySem.W.Frag}{mg:Str->Option Value}{base:Heap}{N ps:List Str}{qual:Str}{scope:Scope}{f:Addr}{cd:Value}{A:Around}{outer:List Env}{s s1:Shared}{H:Hp}{E:XK}{us:List Value}{vs:List V}
  (S:FnScope N ps scope) (hd:A.handled=none) (e0:Env0 P w K mg base A outer s H) (hl:vs.length=ps.length) (r:Vals vs us)
  (x:InCallC s s.heap.objs.size (bindL (envOfC qual scope s.heap.objs.size f cd).kindOf (ps.zip us) fun _=>none) (cellsFrom (s.heap.objs.size + 1) scope.names []) (bindC (envOfC qual scope s.heap.objs.size f cd).kindOf (ps.zip us) fun _=>none) s1) :
  Inv (cxOf CX P w K mg base N qual scope f cd A outer s H E) [] (start N vs) H s1:=by
 have hpl:ps.length<=N.length:=by have:=congrArg List.length S.pre;rw[List.length_take]at this;omega
 obtain⟨h1,tk,rfl,hk⟩:=x.done
 have noA:∀b:Addr,b∉(cxOf CX P w K mg base N qual scope f cd A outer s H E).ex:=fun b z=>absurd (show b∈([]:List Addr) from z) (by simp)
 refine⟨⟨e0.mod,S.kind,rfl,rfl,Nat.le_refl _,fun y z c h1 h2=>?_,fun y hy=>?_,fun y c _ h=>?_,fun _=>hd,Around.frames_deeper e0.frames,.inr ⟨rfl,rfl⟩,fun b z=>absurd z (noA b),e0.bs,e0.bsz,fun b _ _=>noA b,fun b z=>absurd z (noA b),e0.funs,e0.frf⟩,
  rfl,e0.bare,Un.kept hk,⟨_,x.toInCall.ns,fun i y v h1 h2 h3=>?_⟩,fun y c h=>⟨_,x.cell y c h⟩,e0.hok.fresh (Nat.le_refl _),fun y c h=>?_,fun p hp=>absurd (show p∈([]:List (Addr×Obj)) from hp) (by simp),e0.hok.kept hk,?_⟩
 ·exact name_of_addr x.apart (PySem.mem_of_lookup h1) (PySem.mem_of_lookup h2)
 ·have hy:scope.names.lookup y=some .cell∨scope.names.lookup y=some .free:=hy
  rcases hy with hy|hy
  ·exact cell_has hy
  ·exact absurd rfl (S.nofree _ (PySem.mem_of_lookup hy))
 ·exact Nat.le_of_lt (x.above y c (PySem.mem_of_lookup h))
 ·have hi:i < vs.length:=by
   unfold start at h2
   by_cases hi:i < vs.length
   ·exact hi
   ·rw[List.getElem?_append_right (by simpa using hi)]at h2
    rw[List.getElem?_replicate]at h2
    split at h2<;>cases h2
  have ha:vs[i]?=some v:=by
   unfold start at h2
   rw[List.getElem?_append_left (by simpa using hi),List.getElem?_map]at h2
   cases e:vs[i]? with
   | none=>rw[e]at h2;cases h2
   | some a=>rw[e]at h2;cases h2;rfl
  obtain⟨u,hu,rv⟩:=r.get ha
  have hp:ps[i]?=some y:=by
   rw[← S.pre,List.getElem?_take_of_lt (by omega)];exact h1
  have ndP:ps.Nodup:=by rw[← S.pre];exact S.nd.sublist (List.take_sublist _ _)
  refine⟨u,rv,?_⟩
  rcases S.par y (List.mem_of_getElem? hp) with k|k
  ·exact .inl ⟨k,bindL_get ndP hp hu k⟩
  ·obtain⟨c,e⟩:=cell_has (n:=s.heap.objs.size + 1) k
   refine .inr ⟨.inl k,c,e,?_⟩
   have q:=x.cell y c e
   rw[bindC_get ndP hp hu (by show scope.names.lookup y≠_;rw[k];decide)]at q
   exact q
 ·exact e0.hok.fresh (Nat.le_of_lt (x.above y c (PySem.mem_of_lookup h)))
 ·unfold start
  show _=N.length
  rw[List.length_append,List.length_map,List.length_replicate]
  omega
theorem fn_of{CX:CXT}{P:Program}{w:World}{K:PySem.W.Frag}{mg:Str->Option Value}{base:Heap}{k:Nat}{f:Addr}{name qual:Str}{params:Arguments}{body:List Stmt}{scope:Scope}{dV kV doc pm cdv ct oc:Value}{an od:Option Addr}
  {osl:Array (Option Value)} {N ps:List Str} {sp:Sp} (lk:K.lookup f=some ⟨oc,od,.func (PySem.W.fnOf name qual params body scope dV kV doc pm an cdv ct),osl⟩) (hcd:PySem.W.codeIn K cdv qual=true) (S:FnScope N ps scope)
  (len:∀vs H Q E,sp vs H Q E->vs.length=ps.length)
  (hbody:∀(A:Around)(outer:List Env)(s:Shared)(H:Hp)(vs:List V)(Q:VK)(E:XK),Room k (A.deeper (envOfC qual scope s.heap.objs.size f cdv))->sp vs H Q E →
   ∃t,PSs (cxOf CX P w K mg base N qual scope f cdv A outer s H E) body t/\t {nx:=fun _ H'=>Q .non H',rt:=Q} (start N vs) H) :
  FnOk P w K mg base CX (k + 1) f (PySem.W.fnOf name qual params body scope dV kV doc pm an cdv ct) ps sp:=by
 refine⟨len,fun A outer s H args us vs Q E hr e0 hb r hsp=>?_⟩
 have hl:=len _ _ _ _ hsp
 have KX:K.In s.heap:=e0.mod.kin.keeps fun b o e=>(e0.bs b o e).1
 have lim:s.heap.NoLimit:=e0.mod.nolimit.keeps fun b o e=>(e0.bs b o e).1
 have hkind:∀y∈ps.zip us,scope.names.lookup y.1=some .local∨(scope.names.lookup y.1=some .cell/\((cellsFrom (s.heap.objs.size + 1) scope.names []).lookup y.1).isSome=true):=fun ⟨n,v⟩ hy=>by
  rcases S.par n (List.of_mem_zip hy).1 with q|q
  ·exact .inl q
  ·exact .inr ⟨q,PySem.W.cellsFrom_some _ _ _ (.inl q)⟩
 refine codeAny_call_function hr.depth (KX _ _ lk) rfl S.co S.gen rfl (PySem.W.codeRec_of KX hcd) (hb _ _ _ _ ?_)
 refine wpAny_newFunctionEnv_cells S.kind hkind fun env he s1 x=>?_
 subst he
 refine⟨lim.keeps x.toInCall.keep,codeAny_func ?_⟩
 obtain⟨t,ht,hq⟩:=hbody A outer s H vs Q E (hr.deeper _) hsp
 have I:Inv (cxOf CX P w K mg base N qual scope f cdv A outer s H E) [] (start N vs) H s1:=inv_start S hr.hd e0 hl r x
 refine wpAny_mono (ht [] s1 (start N vs) H _ I hq) (fun fl s' hs=>?_) fun e s' hs=>hs
 have fin:∀{σ':St}{H':Hp}{v:V}{u:Value},Inv (cxOf CX P w K mg base N qual scope f cdv A outer s H E) [] σ' H' s'->RelV v u->Q v H'->CE outer P w H s Q u s' :=
  fun {σ' H' v u} J rv q=>⟨v,H',J.os,J.bare,J.base,J.hok,rv,q⟩
 cases fl with
 | ret u =>
  obtain⟨v,σ',H',J,rv,q⟩:=hs
  exact fin J rv q
 | next =>
  obtain⟨σ',H',J,q⟩:=hs
  exact fin (v:=V.non) (u:=Value.none) J rfl q
 | brk =>
  obtain⟨_,_,_,q⟩:=hs
  exact False.elim q
 | cont =>
  obtain⟨_,_,_,q⟩:=hs
  exact False.elim q
end L2
namespace L2
open PySem PySem.Spec PyProof.Rows
section
variable {X:Cx} {x:Str} {p pos:Pos} {e:Expr} {es:List Expr} {t:TA} {id T:String} {r:List V->Hp->VK->Prop}
def tCB(r:List V->Hp->VK->Prop)(t:TA):TE:=fun σ H Q=>t σ H fun vs H1=>r vs H1 Q
theorem pe_callB(hc:CallR X (.builtin id) r)(hg:Gl X x)(hm:X.mg x=none)(hv:bootBuiltins x=some (.builtin id))(ha:PA X (e::es) t) (hn:x ≠ "__name__" := by decide) (hdb:(x==("__debug__" : Str))=false:=by decide)
  (he:starEach (e::es) X.env=(false,eval e X.env)::starEach es X.env:=by rfl) (hpl:(backTo pos (starEach es X.env)).any (·.1)=false:=by rfl):PE X (.Call (.Name x p) (e::es) [] pos) (tCB r t):=by
 intro pins s σ H Q I h
 refine wpAny_Call_Name_kw (ld_blt I hg hm hv ?_ hn hdb)
 exact PyProof.Rows.callWith_builtin1 (thn (ha pos pins s σ H _ I h) fun us s1 ⟨vs,H1,I1,r1,q1⟩=>hc pins s1 σ H1 vs us Q I1 r1 q1) he hpl
theorem pe_callTy(hc:CallR X (.type T) r)(hg:Gl X x)(hm:X.mg x=none)(hv:bootBuiltins x=some (.type T))(ha:PA X (e::es) t) (hn:x ≠ "__name__" := by decide) (hdb:(x==("__debug__" : Str))=false:=by decide)
  (he:starEach (e::es) X.env=(false,eval e X.env)::starEach es X.env:=by rfl) (hpl:(backTo pos (starEach es X.env)).any (·.1)=false:=by rfl):PE X (.Call (.Name x p) (e::es) [] pos) (tCB r t):=by
 intro pins s σ H Q I h
 refine wpAny_Call_Name_kw (ld_blt I hg hm hv ?_ hn hdb)
 exact PyProof.Rows.callWith_type1 (thn (ha pos pins s σ H _ I h) fun us s1 ⟨vs,H1,I1,r1,q1⟩=>hc pins s1 σ H1 vs us Q I1 r1 q1) he hpl
end
end L2
namespace HT
open PySem PyProof.Rows
section
open PySem.SeqAt
open PySem.AutoSeq1 (wpAny_loadPart')
open PySem.MeetsSeq PySem.MeetsSeq2 PySem.MeetsSeq3
end
section
variable {prog:Program} {w:World} {A:Around} {E:Value->Shared->Prop} {s:Shared}
theorem cat_tup{t b:Addr}{vs ws:List Value}{Q:Value->Shared->Prop}(ht:IsTup s.heap t vs.toArray)(hb:IsTup s.heap b ws.toArray)(hv:vs≠[])
  (h1:ws=[]->Q (.ref t) s) (h2:ws≠[]->Q (.ref s.heap.objs.size) {s with heap:=s.heap.push {cls:=.type "tuple", data:=.seq (vs++ws).toArray} })
  (hsz:vs.length + ws.length<=sizeLine):wpAny (model prog w) A (binaryOp .Add (.ref t) (.ref b)) Q E s:=by
 obtain⟨⟨cls,dd,data,sl⟩,ho,hc,n,hd⟩:=id ht
 obtain⟨⟨cls2,dd2,data2,sl2⟩,ho2,hc2,n2,hd2⟩:=id hb
 simp only at hc hd hc2 hd2
 subst hc hd hc2 hd2
 have e:vs.toArray++ws.toArray=(vs++ws).toArray:=by simp
 by_cases hw:ws=[]
 ·exact concat_meets ⟨_,ho,rfl⟩ ⟨_,ho2,rfl⟩ noFill_tuple_add seq_tuple_add PySem.F.slot_tuple_add PySem.F.entry_tuple_add (PySem.F.args_tuple_add_2 _ _)
   (tuple_addW1 t b vs.toArray ws.toArray n n2 dd dd2 sl sl2 (by simpa using hv) (by simp[hw])) ⟨ho,ho2,h1 hw⟩
 ·refine concat_meets ⟨_,ho,rfl⟩ ⟨_,ho2,rfl⟩ noFill_tuple_add seq_tuple_add PySem.F.slot_tuple_add PySem.F.entry_tuple_add (PySem.F.args_tuple_add_2 _ _)
   (tuple_addW2 t b vs.toArray ws.toArray n n2 dd dd2 sl sl2 (by simpa using hv) (by simpa using hw) (by rw[List.size_toArray,List.size_toArray];exact hsz)) ⟨ho,ho2,?_⟩
  rw[e]
  exact h2 hw
def sIx(n d:Nat):Option Int->Nat
 | none=>d
 | some v=>if v < 0 then (v + (n:Int)).toNat else min v.toNat n
theorem sIx_none(n d:Nat):sIx n d none=d:=rfl
theorem sIx_nat(n d k:Nat):sIx n d (some (k:Int))=min k n:=by
 show (if (k:Int) < 0 then ((k:Int) + (n:Int)).toNat else min (k:Int).toNat n)=min k n
 rw[if_neg (by omega),Int.toNat_natCast]
theorem sIx_le(n d:Nat)(hd:d<=n)(o:Option Int):sIx n d o<=n:=by
 cases o with
 | none=>exact hd
 | some v =>
  show (if v < 0 then (v + (n:Int)).toNat else min v.toNat n)<=n
  by_cases hv:v < 0
  ·rw[if_pos hv];omega
  ·rw[if_neg hv];exact Nat.min_le_right _ _
theorem clip_eq(v:Int)(n d:Nat):(if v < 0 then max (v + (n:Int)) 0 else min v (n:Int))=((sIx n d (some v):Nat):Int):=by
 show (if v < 0 then max (v + (n:Int)) 0 else min v (n:Int))=(((if v < 0 then (v + (n:Int)).toNat else min v.toNat n):Nat):Int)
 by_cases hv:v < 0
 ·simp only[if_pos hv];omega
 ·simp only[if_neg hv];omega
theorem adjust_gen(lo hi:Option Int)(n:Nat):Builtin.Slice.sliceAdjust lo hi 1 (n:Int)=(((sIx n 0 lo:Nat):Int),((sIx n n hi:Nat):Int)):=by
 have h1:¬ ((1:Int) < 0):=by omega
 unfold Builtin.Slice.sliceAdjust
 simp only[h1,if_false]
 refine Prod.ext ?_ ?_
 ·cases lo with
  | none=>rfl
  | some v=>exact clip_eq v n 0
 ·cases hi with
  | none=>rfl
  | some v=>exact clip_eq v n n
theorem places_gen(i j:Nat):Builtin.Slice.slicePlaces (i:Int) (j:Int) 1=j - i:=by
 unfold Builtin.Slice.slicePlaces
 have h1:(1:Int) > 0:=by omega
 simp only[h1,if_true,Int.ediv_one]
 split<;>omega
theorem slicePart_{v:Value}{o:Option Int}{Q:Option Int->Shared->Prop}(p:IsPart v o)(h:Q o s):wpAny (model prog w) A (Builtin.Slice.slicePartIndex v) Q E s:=by
 cases p with
 | none=>exact slicePart_none h
 | int i t=>exact slicePart_int h
theorem sliceApplied_gen{sl:Addr}{vl vu:Value}{lo hi:Option Int}{n:Nat}{Q:Int×Int×Nat->Shared->Prop}(hs:s.heap.IsSliceOf sl vl vu .none)(pl:IsPart vl lo)(pu:IsPart vu hi)
  (h:Q (((sIx n 0 lo:Nat):Int),1,sIx n n hi - sIx n 0 lo) s):wpAny (model prog w) A (Builtin.Slice.sliceApplied (.ref sl) (pure (n:Int))) Q E s:=by
 obtain⟨os,hos,hcs,hds⟩:=id hs
 unfold Builtin.Slice.sliceApplied Builtin.Slice.sliceFields
 refine wpAny_bind (wpAny_bind (wpAny_field hos hds (x:=vl) rfl (wpAny_bind (wpAny_field hos hds (x:=vu) rfl (wpAny_bind (wpAny_field hos hds (x:=.none) rfl (wpAny_pure ?_)))))))
 refine wpAny_bind (slicePart_none ?_)
 show wpAny _ _ (if ((1:Int)==0)=true then _ else _) _ _ s
 rw[if_neg (by decide)]
 refine wpAny_bind (slicePart_ pl (wpAny_bind (slicePart_ pu (wpAny_bind (wpAny_pure ?_)))))
 show wpAny _ _ (match Builtin.Slice.sliceAdjust lo hi 1 (n:Int) with|(lo,hi)=>pure (lo,(1:Int),Builtin.Slice.slicePlaces lo hi 1)) _ _ s
 rw[adjust_gen lo hi n]
 show wpAny _ _ (pure (((sIx n 0 lo:Nat):Int),(1:Int),Builtin.Slice.slicePlaces ((sIx n 0 lo:Nat):Int) ((sIx n n hi:Nat):Int) 1)) _ _ s
 rw[places_gen]
 exact wpAny_pure h
theorem pick_gen(xs:Array Value)(i k:Nat):((List.range k).filterMap fun (m:Nat)=>xs[((i:Int) + (m:Int) * 1).toNat]?).toArray=((xs.toList.drop i).take k).toArray:=by
 have e:(fun (m:Nat)=>xs[((i:Int) + (m:Int) * 1).toNat]?)=fun m=>xs[i + m]?:=by
  funext m
  have:((i:Int) + (m:Int) * 1).toNat=i + m:=by omega
  rw[this]
 rw[e]
 have:=pick_run xs i k
 rw[List.filterMap_map]at this
 have e2:((fun x=>xs[x]?) ∘ fun x=>i + x)=fun m=>xs[i + m]?:=rfl
 rw[e2]at this
 rw[this]
theorem getItem_tuple_cut{t sl:Addr}{items:Array Value}{vl vu:Value}{lo hi:Option Int}{Q:Value->Shared->Prop}(ht:IsTup s.heap t items)(hs:s.heap.IsSliceOf sl vl vu .none)(pl:IsPart vl lo)(pu:IsPart vu hi)
  (hw:¬ (sIx items.size 0 lo=0/\sIx items.size items.size hi=items.size))
  (h:Q (.ref s.heap.objs.size) {s with heap:=s.heap.push {cls:=.type "tuple", data:=.seq ((items.toList.drop (sIx items.size 0 lo)).take (sIx items.size items.size hi - sIx items.size 0 lo)).toArray} })
  (hsz:items.size<=sizeLine):wpAny (model prog w) A (getItem (.ref t) (.ref sl)) Q E s:=by
 have htake:sizeOk (.seq ((items.toList.drop (sIx items.size 0 lo)).take (sIx items.size items.size hi - sIx items.size 0 lo)).toArray):=by
  show ((items.toList.drop (sIx items.size 0 lo)).take (sIx items.size items.size hi - sIx items.size 0 lo)).toArray.size<=sizeLine
  rw[List.size_toArray,List.length_take,List.length_drop,Array.length_toList]
  omega
 have hj:sIx items.size items.size hi<=items.size:=sIx_le _ _ (Nat.le_refl _) hi
 obtain⟨os,hos,hcs,hds⟩:=id hs
 have hTs:s.TypeIs (.ref sl) "slice" := ⟨os,hos,hcs⟩
 unfold getItem
 try with_reducible refine wpAny_holding ?_
 first|refine wpAny_bind (wpAny_pure ?_)|skip
 refine wpAny_bind (wpAny_sequenceKey ht.typeIs (by decide) ?_)
 refine wpAny_bind (wpAny_callSpecial?_slot (name:=Str.ofString "__getitem__") ht.typeIs PyProof.Rows.slot_tuple_getitem
  (wpAny_call_entry PyProof.Rows.slot_tuple_getitem ht.typeIs entry_tuple_getitem ?_ (args_tuple_getitem _ _)))
 show wpAny _ _ (Builtin.Tuple.tupleItemsOf (.ref t) >>= _) _ _ s
 refine wpAny_bind (tupleItemsOf_ ht ?_)
 refine wpAny_bind (wpAny_typeOf hTs ?_)
 rw[if_pos (by decide)]
 refine wpAny_bind (sliceApplied_gen hs pl pu ?_)
 have hno:¬ ((((sIx items.size 0 lo:Nat):Int)==0&&(1:Int)==1&&(sIx items.size items.size hi - sIx items.size 0 lo)==items.size)=true):=by
  intro q
  rw[Bool.and_eq_true,Bool.and_eq_true]at q
  have q1:((sIx items.size 0 lo:Nat):Int)=0:=eq_of_beq q.1.1
  have q2:sIx items.size items.size hi - sIx items.size 0 lo=items.size:=eq_of_beq q.2
  exact hw ⟨by omega,by omega⟩
 show wpAny _ _ (if (((sIx items.size 0 lo:Nat):Int)==0&&(1:Int)==1&&(sIx items.size items.size hi - sIx items.size 0 lo)==items.size)=true then _ else _) _ _ s
 rw[if_neg hno,pick_gen]
 first
  | exact wpAny_bind (m:=Builtin.Tuple.tupleExact _) (wpAny_newObj_type (wpAny_pure ⟨_,rfl,wpAny_pure h⟩) htake)
  | exact wpAny_bind (m:=Builtin.Tuple.tupleExact _) (wpAny_newObj_type (wpAny_bind (wpAny_pure (wpAny_pure ⟨_,rfl,wpAny_pure h⟩))) htake)
  | exact wpAny_bind (wpAny_bind (m:=Builtin.Tuple.tupleExact _) (wpAny_newObj_type (wpAny_pure (wpAny_pure ⟨_,rfl,wpAny_pure h⟩)) htake))
  | exact wpAny_bind (wpAny_bind (m:=Builtin.Tuple.tupleExact _) (wpAny_newObj_type (wpAny_pure ⟨_,rfl,wpAny_pure h⟩) htake))
end
end HT
namespace L2
open PySem PySem.Spec PyProof.Rows
abbrev TO:=St->Hp->(Option Int->Hp->Prop)->Prop
def PO(X:Cx)(e:Option Expr)(t:TO):Prop :=
 ∀(pins:List (Addr×Obj))(s:Shared)(σ:St)(H:Hp)(Q:Option Int->Hp->Prop),Inv X pins σ H s->t σ H Q →
  wpAny (model X.prog X.w) X.A (evalPart e X.env) (fun u s'=>∃o H',Inv X pins σ H' s'/\IsPart u o/\Q o H') X.xe s
def tNoPart:TO:=fun _ H Q=>Q none H
def tPart(t:TE):TO:=fun σ H Q=>t σ H fun x H1=>∃i,x=.int i/\Q (some i) H1
section
variable {X:Cx} {e:Expr} {te:TE} {lo hi:Option Expr} {tl th:TO} {pos p2:Pos}
theorem po_none:PO X none tNoPart:=by
 intro pins s σ H Q I h
 rw[evalPart_none]
 exact wpAny_pure ⟨none,H,I,.none,h⟩
theorem po_some(h:PE X e te):PO X (some e) (tPart te):=by
 intro pins s σ H Q I hw
 rw[evalPart_some]
 refine thn (h pins s σ H _ I hw) fun u s1 ⟨x,H1,I1,r1,q1⟩=>?_
 obtain⟨i,rfl,q⟩:=q1
 obtain⟨t,rfl⟩:=r1
 exact⟨some i,H1,I1,.int i t,q⟩
def SlR(X:Cx)(r:V->Option Int->Option Int->Hp->VK->Prop):Prop :=
 ∀(pins:List (Addr×Obj))(s:Shared)(σ:St)(H:Hp)(x:V)(v vl vu:Value)(lo hi:Option Int)(sl:Addr)(Q:VK),Inv X pins σ H s->RelV x v->s.heap.IsSliceOf sl vl vu .none->IsPart vl lo->IsPart vu hi->r x lo hi H Q →
  ∃T id,typeLookup (.type T) "__getitem__" = pure (some (.builtin id))/\s.TypeIs v T/\wpAny (model X.prog X.w) X.A (getItem v (.ref sl)) (EP X pins σ Q) X.xe s
theorem SlR.or{r r':V->Option Int->Option Int->Hp->VK->Prop}(h:SlR X r)(h':SlR X r'):SlR X (fun x lo hi H Q=>r x lo hi H Q∨r' x lo hi H Q):=by
 intro pins s σ H x v vl vu lo hi sl Q I rx hs pl pu q
 rcases q with q|q
 ·exact h pins s σ H x v vl vu lo hi sl Q I rx hs pl pu q
 ·exact h' pins s σ H x v vl vu lo hi sl Q I rx hs pl pu q
def tSl(r:V->Option Int->Option Int->Hp->VK->Prop)(te:TE)(tl th:TO):TE:=fun σ H Q=>te σ H fun x H1=>tl σ H1 fun l H2=>th σ H2 fun u H3=>r x l u H3 Q
theorem pe_slice{r:V->Option Int->Option Int->Hp->VK->Prop}(hr:SlR X r)(he:PE X e te)(hl:PO X lo tl)(hu:PO X hi th):PE X (.Subscript e (.Slice lo hi none p2) pos) (tSl r te tl th):=by
 intro pins s σ H Q I h
 refine Subscript_ (thn (he pins s σ H _ I h) fun v s1 ⟨x,H1,I1,r1,q1⟩=>?_)
 refine wpAny_Slice (thn (hl pins s1 σ H1 _ I1 q1) fun vl s2 ⟨l,H2,I2,pl,q2⟩=>thn (hu pins s2 σ H2 _ I2 q2) fun vu s3 ⟨u,H3,I3,pu,q3⟩=>?_)
 rw[evalPart_none]
 refine wpAny_pure ?_
 have I4:Inv X pins σ H3 {s3 with heap:=s3.heap.push {cls:=.type "slice", data:=.fields #[vl,vu,.none]} }:=I3.kept (t':=s3.toks) fun b ob q=>Heap.get?_push_of_some _ q
 obtain⟨T,id,hT,ht,hg⟩:=hr pins {s3 with heap:=s3.heap.push {cls:=.type "slice", data:=.fields #[vl,vu,.none]} } σ H3 x v vl vu l u s3.heap.objs.size Q I4 r1 (Heap.IsSliceOf.new ..) pl pu q3
 show wpAny (model X.prog X.w) X.A (subscriptTail e (.Slice lo hi none p2) v (.ref s3.heap.objs.size)) (EP X pins σ Q) X.xe {s3 with heap:=s3.heap.push {cls:=.type "slice", data:=.fields #[vl,vu,.none]} }
 exact tail_any (ops:=[.ref s3.heap.objs.size,v]) ht hT hg (by with_unfolding_all rfl)
def cutV(xs:List V)(lo hi:Option Int):List V:=(xs.drop (HT.sIx xs.length 0 lo)).take (HT.sIx xs.length xs.length hi - HT.sIx xs.length 0 lo)
theorem cutV_length(xs:List V)(lo hi:Option Int):(cutV xs lo hi).length<=xs.length:=by
 unfold cutV
 rw[List.length_take,List.length_drop]
 omega
def rSlT(K:PySem.W.Frag):V->Option Int->Option Int->Hp->VK->Prop:=fun x lo hi H Q=>∃a xs,x=.ref a/\SqT K H a xs ∧
 ¬ (HT.sIx xs.length 0 lo=0/\HT.sIx xs.length xs.length hi=xs.length)/\∀p,H p=none->Q (.ref p) (upd H p (.tup (cutV xs lo hi)))
theorem sl_tup:SlR X (rSlT X.K):=by
 intro pins s σ H x v vl vu lo hi sl Q I rx hs pl pu h
 obtain⟨a,xs,rfl,hx,hw,q⟩:=h
 cases rx
 obtain⟨its,r,ht,hz⟩:=I.tuple hx
 have hlen:its.toArray.size=xs.length:=by rw[List.size_toArray];exact r.length.symm
 refine⟨"tuple", _,PyProof.Rows.slot_tuple_getitem.lookup,ht.typeIs,?_⟩
 refine HT.getItem_tuple_cut ht hs pl pu (by rw[hlen];exact hw) ?_ (by rw[hlen];exact hz)
 rw[hlen]
 refine⟨.ref s.heap.objs.size,_,I.laid (t':=s.toks) (o:=.tup (cutV xs lo hi)) (fun b ob q=>Heap.get?_push_of_some _ q) (Nat.le_refl _) ?_,rfl,q _ (I.hok.fresh (Nat.le_refl _))⟩
 exact⟨Nat.le_trans (cutV_length xs lo hi) hz,_,(r.drop (HT.sIx xs.length 0 lo)).take (HT.sIx xs.length xs.length hi - HT.sIx xs.length 0 lo),IsTup.new _ _⟩
theorem Vals.nil_iff{xs:List V}{us:List Value}(r:Vals xs us):us=[] ↔ xs=[]:=by
 cases r with
 | nil=>simp
 | cons _ _=>simp
end
end L2
namespace L2
open PySem PySem.Spec PyProof.Rows
def ixN(n:Nat)(i:Int):Option Nat:=if 0<=i then (if i < n then some i.toNat else none) else if -(n:Int)<=i then some (i + n).toNat else none
def atI{α:Type}(xs:List α)(i:Int):Option α:=(ixN xs.length i).bind fun j=>xs[j]?
theorem ixN_seq{n:Nat}{i:Int}{j:Nat}(h:ixN n i=some j):seqIndex? i n=some j/\j < n /\ -(n:Int)<=i/\i < n:=by
 unfold ixN at h
 by_cases h0:0<=i
 ·rw[if_pos h0]at h
  by_cases h1:i < n
  ·rw[if_pos h1]at h
   have e:i.toNat=j:=Option.some.inj h
   exact⟨by rw[seqIndex_of h0 h1,e],by omega,by omega,h1⟩
  ·rw[if_neg h1]at h;cases h
 ·rw[if_neg h0]at h
  by_cases h1:-(n:Int)<=i
  ·rw[if_pos h1]at h
   have e:(i + n).toNat=j:=Option.some.inj h
   exact⟨by rw[seqIndex_neg (by omega) h1,e],by omega,h1,by omega⟩
  ·rw[if_neg h1]at h;cases h
theorem atI_get{α:Type}{xs:List α}{i:Int}{v:α}(h:atI xs i=some v):∃j,seqIndex? i xs.length=some j/\xs[j]?=some v/\j < xs.length /\ -(xs.length:Int)<=i/\i < xs.length:=by
 unfold atI at h
 cases e:ixN xs.length i with
 | none=>rw[e]at h;cases h
 | some j =>
  rw[e]at h
  obtain⟨h1,h2,h3,h4⟩:=ixN_seq e
  exact⟨j,h1,h,h2,h3,h4⟩
def PlainIx(b:Expr):Prop:=∀o i,subscripted b false o i=operate [o,i] (getItem o i)
def IxR(X:Cx)(r:R2):Prop :=
 ∀(value slice:Expr)(pins:List (Addr×Obj))(s:Shared)(σ:St)(H:Hp)(x y:V)(v u:Value)(Q:VK),Inv X pins σ H s->RelV x v->RelV y u->r x y H Q →
  subscripted slice false v u=operate [v,u] (getItem v u)->wpAny (model X.prog X.w) X.A (subscriptTail value slice v u) (EP X pins σ Q) X.xe s
def MtR(X:Cx)(id:String)(r:V->List V->Hp->VK->Prop):Prop :=
 ∀(pins:List (Addr×Obj))(s:Shared)(σ:St)(H:Hp)(x:V)(xs:List V)(v:Value)(us:List Value)(Q:VK),Inv X pins σ H s->RelV x v->Vals xs us->r x xs H Q →
  wpAny (model X.prog X.w) X.A (call (.builtin id) (v::us)) (EP X pins σ Q) X.xe s
section
variable {X:Cx} {a b:Expr} {ta tb:TE} {pos:Pos}
theorem IxR.or{r r':R2}(h:IxR X r)(h':IxR X r'):IxR X (fun x y H Q=>r x y H Q∨r' x y H Q):=by
 intro value slice pins s σ H x y v u Q I rx ry q hs
 rcases q with q|q
 ·exact h value slice pins s σ H x y v u Q I rx ry q hs
 ·exact h' value slice pins s σ H x y v u Q I rx ry q hs
theorem MtR.or{id:String}{r r':V->List V->Hp->VK->Prop}(h:MtR X id r)(h':MtR X id r'):MtR X id (fun x xs H Q=>r x xs H Q∨r' x xs H Q):=by
 intro pins s σ H x xs v us Q I rx rs q
 rcases q with q|q
 ·exact h pins s σ H x xs v us Q I rx rs q
 ·exact h' pins s σ H x xs v us Q I rx rs q
theorem pe_ix{r:R2}(hr:IxR X r)(ha:PE X a ta)(hb:PE X b tb)(hs:PlainIx b):PE X (.Subscript a b pos) (tOp r ta tb):=by
 intro pins s σ H Q I h
 exact Subscript_ (binT ha hb I h fun v u s2 x y H2 I2 rx ry q=>hr a b pins s2 σ H2 x y v u Q I2 rx ry q (hs _ _))
def rIxL(K:PySem.W.Frag):R2:=fun x y H Q=>∃p xs i v,x=.ref p/\y=.int i/\SqL K H p xs/\atI xs i=some v/\Q v H
def rIxT(K:PySem.W.Frag):R2:=fun x y H Q=>∃p xs i v,x=.ref p/\y=.int i/\SqT K H p xs/\atI xs i=some v/\Q v H
def rIxS:R2:=fun x y H Q=>∃z i c,x=.str z/\y=.int i/\z.length<=sizeLine/\atI z.cps.toList i=some c/\Q (.str ⟨#[c]⟩) H
theorem ix_list:IxR X (rIxL X.K):=by
 intro value slice pins s σ H x y v u Q I rx ry h hs
 obtain⟨p,xs,i,z,rfl,rfl,hq,he,q⟩:=h
 cases rx
 obtain⟨t,rfl⟩:=ry
 obtain⟨its,r,pl,hz⟩:=I.list hq
 obtain⟨j,h1,h2,h3,h4,h5⟩:=atI_get he
 obtain⟨w,ew,rw'⟩:=r.get h2
 have hl:=r.length
 have hn:=line63
 have fin:EP X pins σ Q w s:=⟨z,H,I,rw',q⟩
 by_cases h0:0<=i
 ·have hj:i.toNat=j:=by
   rw[seqIndex_of h0 h5]at h1
   exact Option.some.inj h1
  exact item_listR pl.isList h0 (by omega) (by rw[hj];simpa using ew) fin hs
 ·have hj:(i + (its.toArray.size:Int)).toNat=j:=by
   rw[seqIndex_neg (by omega) h4]at h1
   rw[List.size_toArray,← hl]
   exact Option.some.inj h1
  exact subscriptTail_builtinR (x:=w) pl.isList.typeIs slot_list_getitem.lookup
   (wpAny_getItem_list_neg (Q:=fun r s'=>r=w/\EP X pins σ Q r s') pl.isList (by omega) (by rw[List.size_toArray]<;>omega) (by omega) (by rw[hj];simpa using ew) ⟨rfl,fin⟩) hs
theorem ix_tup:IxR X (rIxT X.K):=by
 intro value slice pins s σ H x y v u Q I rx ry h hs
 obtain⟨p,xs,i,z,rfl,rfl,hq,he,q⟩:=h
 cases rx
 obtain⟨t,rfl⟩:=ry
 obtain⟨its,r,pl,hz⟩:=I.tuple hq
 obtain⟨j,h1,h2,h3,h4,h5⟩:=atI_get he
 obtain⟨w,ew,rw'⟩:=r.get h2
 have hl:=r.length
 have hn:=line63
 have fin:EP X pins σ Q w s:=⟨z,H,I,rw',q⟩
 exact subscriptTail_builtinR (x:=w) pl.typeIs slot_tuple_getitem.lookup
  (getItem_tuple (j:=j) (Q:=fun r s'=>r=w/\EP X pins σ Q r s') pl (by omega) (by omega) (by rw[List.size_toArray,← hl];exact h1) (by simpa using ew) ⟨rfl,fin⟩) hs
theorem ix_str:IxR X rIxS:=by
 intro value slice pins s σ H x y v u Q I rx ry h hs
 obtain⟨z,i,c,rfl,rfl,hz,he,q⟩:=h
 obtain⟨t,rfl⟩:=rx
 obtain⟨t',rfl⟩:=ry
 obtain⟨j,h1,h2,h3,h4,h5⟩:=atI_get he
 have hl:z.cps.toList.length=z.length:=by simp[Str.length]
 rw[hl]at h1 h4 h5
 have hn:=line63
 exact tail_any (typeIs_str s z t) slot_str_getitem.lookup (getItem_str (c:=c) (by
  have e1:decide (i < -(2 ^ 63:Int))=false:=decide_eq_false (by omega)
  have e2:decide (i ≥ 2 ^ 63)=false:=decide_eq_false (by omega)
  rw[e1,e2,Bool.or_false]) (by rw[h1];simpa using h2) ⟨.str ⟨#[c]⟩,H,I.tok _,⟨_,rfl⟩,q⟩) hs
def rIx(K:PySem.W.Frag):R2:=fun x y H Q=>rIxL K x y H Q∨rIxT K x y H Q∨rIxS x y H Q
theorem ix_seq:IxR X (rIx X.K):=ix_list.or (ix_tup.or ix_str)
theorem mapSeq_set(its:List Value)(n j:Nat)(u:Value):Obj.mapSeq (·.setIfInBounds j u) {cls:=.type "list", data:=.seq its.toArray n}={cls:=.type "list", data:=.seq (its.set j u).toArray n}:=by
 simp[Obj.mapSeq]
theorem Inv.lst{pins:List (Addr×Obj)}{σ:St}{H:Hp}{s:Shared}{p:Addr}{xs:List V}(I:Inv X pins σ H s)(h:H p=some (.lst xs)) :
  ∃(its:List Value) (n:Nat),Vals xs its/\s.heap.get? p=some {cls:=.type "list", data:=.seq its.toArray n}/\xs.length<=sizeLine:=by
 obtain⟨z,its,n,r,e⟩:=I.hok p _ h
 exact⟨its,n,r,e,z⟩
theorem Inv.lstUpd{pins:List (Addr×Obj)}{σ:St}{H:Hp}{s:Shared}{p:Addr}{xs ys:List V}{its its':List Value}{n n':Nat}{f:Obj->Obj}(I:Inv X pins σ H s)(h:H p=some (.lst xs))
  (ho:s.heap.get? p=some {cls:=.type "list", data:=.seq its.toArray n}) (hf:f {cls:=.type "list", data:=.seq its.toArray n}={cls:=.type "list", data:=.seq its'.toArray n' }) (r:Vals ys its') (hz:ys.length<=sizeLine) (t:Nat) :
  Inv X pins σ (upd H p (.lst ys)) {s with heap:=s.heap.update p f,toks:=t}:=by
 have e:(s.heap.update p f).get? p=some {cls:=.type "list", data:=.seq its'.toArray n' }:=by
  rw[Heap.get?_update_self f ho (by rw[hf]<;>rfl),hf]
 refine I.write (x:=p) (e:=p) (by rw[h];trivial) (.inl rfl) (fun b u hb q=>(Heap.get?_update_other _ _ (Ne.symm hb)).trans q) ⟨_,e⟩ ?_
 exact⟨hz,its',n',r,e⟩
def rSetL:V->V->V->Hp->(Hp->Prop)->Prop:=fun o i v H Q=>∃p xs k j,o=.ref p/\i=.int k/\H p=some (.lst xs)/\ixN xs.length k=some j/\Q (upd H p (.lst (xs.set j v)))
theorem set_list:PSet X rSetL:=by
 intro pins s σ H o i v ov iv u Q I ro ri rv h
 obtain⟨p,xs,k,j,rfl,rfl,hp,hj,q⟩:=h
 cases ro
 obtain⟨t,rfl⟩:=ri
 obtain⟨its,n,r,ho,hz⟩:=I.lst hp
 obtain⟨h1,h2,h3,h4⟩:=ixN_seq hj
 have hl:=r.length
 have hn:=line63
 have I':Inv X pins σ (upd H p (.lst (xs.set j v))) {s with heap:=s.heap.update p (Obj.mapSeq (·.setIfInBounds j u))} :=
  I.lstUpd hp ho (mapSeq_set its n j u) (r.set rv j) (by rw[List.length_set];exact hz) s.toks
 by_cases h0:0<=k
 ·have hk:k.toNat=j:=by
   rw[seqIndex_of h0 h4]at h1
   exact Option.some.inj h1
  exact PySem.W.ki_setAt ho h0 (by omega) (by rw[List.size_toArray,← hl];exact h4) (by rw[hk];exact⟨_,I',q⟩)
 ·have hk:(k + (its.toArray.size:Int)).toNat=j:=by
   rw[seqIndex_neg (by omega) h3]at h1
   rw[List.size_toArray,← hl]
   exact Option.some.inj h1
  exact PySem.W.ki_setBack ho (by omega) (by rw[List.size_toArray,← hl];exact h3) (by omega) (by rw[hk];exact⟨_,I',q⟩)
theorem slice_bounds(lo hi:Option Int)(n:Nat):(sliceBounds lo hi none n).1=((HT.sIx n 0 lo:Nat):Int)/\(sliceBounds lo hi none n).2.1=((HT.sIx n n hi:Nat):Int)/\(sliceBounds lo hi none n).2.2=1:=by
 refine⟨?_,?_,rfl⟩
 ·cases lo with
  | none=>simp[sliceBounds,HT.sIx]
  | some i =>
   simp only[sliceBounds,HT.sIx,Option.getD_none,show (1:Int) > 0 by decide,if_true]
   by_cases h:i < 0
   ·simp only[h,if_true]<;>omega
   ·simp only[h,if_false]<;>omega
 ·cases hi with
  | none=>simp[sliceBounds,HT.sIx]
  | some i =>
   simp only[sliceBounds,HT.sIx,Option.getD_none,show (1:Int) > 0 by decide,if_true]
   by_cases h:i < 0
   ·simp only[h,if_true]<;>omega
   ·simp only[h,if_false]<;>omega
theorem slicePick_cut(its:List Value)(lo hi:Option Int):slicePick its.toArray lo hi none=((its.drop (HT.sIx its.length 0 lo)).take (HT.sIx its.length its.length hi - HT.sIx its.length 0 lo)).toArray:=by
 obtain⟨h1,h2,h3⟩:=slice_bounds lo hi its.toArray.size
 unfold slicePick
 rw[h1,h2,h3]
 simp only[sliceRange_one,pick_run,List.size_toArray]<;>rfl
theorem call_len_seq:CallR X (.builtin "len") (fun xs H Q=>∃p ys,xs=[.ref p]/\(SqL X.K H p ys∨SqT X.K H p ys)/\Q (.int ys.length) H):=by
 intro pins s σ H xs us Q I r h
 obtain⟨p,ys,rfl,hq,q⟩:=h
 obtain⟨u,rfl,rx⟩:=vals1 r
 cases rx
 have hn:=line63
 rcases hq with hq|hq
 ·obtain⟨its,r',pl,hz⟩:=I.list hq
  have hlen:=r'.length
  exact Calls.call_len_list pl.isList (by simp only[List.size_toArray]<;>omega) ⟨.int ys.length,H,I.tok _,⟨s.toks + 1,by rw[List.size_toArray,hlen]⟩,q⟩
 ·obtain⟨its,r',pl,hz⟩:=I.tuple hq
  have hlen:=r'.length
  exact len_tuple pl (by simp only[List.size_toArray]<;>omega) ⟨.int ys.length,H,I.tok _,⟨s.toks + 1,by rw[List.size_toArray,hlen]⟩,q⟩
theorem CallR.or{f:Value}{r r':List V->Hp->VK->Prop}(h:CallR X f r)(h':CallR X f r'):CallR X f (fun xs H Q=>r xs H Q∨r' xs H Q):=by
 intro pins s σ H xs us Q I rs q
 rcases q with q|q
 ·exact h pins s σ H xs us Q I rs q
 ·exact h' pins s σ H xs us Q I rs q
theorem call_list_of:CallR X (.type "list") (fun xs H Q=>∃p ys,xs=[.ref p]/\(SqL X.K H p ys∨SqT X.K H p ys)/\∀l,H l=none->Q (.ref l) (upd H l (.lst ys))):=by
 intro pins s σ H xs us Q I r h
 obtain⟨p,ys,rfl,hq,q⟩:=h
 obtain⟨u,rfl,rx⟩:=vals1 r
 cases rx
 have fin:∀(its:List Value),Vals ys its->ys.length<=sizeLine->∀(h':Heap)(c':Nat),(∀b o',s.heap.get? b=some o'->h'.get? b=some o') →
   h'.get? s.heap.objs.size=some {cls:=.type "list", dict:=none,data:=.seq its.toArray c',slots:=#[]}->EP X pins σ Q (.ref s.heap.objs.size) {s with heap:=h' }:=fun its r' hz h' c' kp e =>
  ⟨.ref s.heap.objs.size,_,I.laid (t':=s.toks) kp (Nat.le_refl _) (show ObjOk X.prog X.w _ h' _ (.lst ys) from ⟨hz,its,c',r',e⟩),rfl,q _ (I.hok.fresh (Nat.le_refl _))⟩
 rcases hq with hq|hq
 ·obtain⟨its,r',pl,hz⟩:=I.list hq
  have hlen:=r'.length
  obtain⟨o,ho,hc,n,hd⟩:=pl.isList
  exact call_list_seq p (.inl rfl) ho hc hd (fun h' c' kp e=>fin its r' hz h' c' kp e) (by simp only[List.size_toArray]<;>omega)
 ·obtain⟨its,r',pl,hz⟩:=I.tuple hq
  have hlen:=r'.length
  obtain⟨o,ho,hc,n,hd⟩:=pl
  exact call_list_seq p (.inr rfl) ho hc hd (fun h' c' kp e=>fin its r' hz h' c' kp e) (by simp only[List.size_toArray]<;>omega)
theorem call_tuple_of:CallR X (.type "tuple") (fun xs H Q=>∃p ys,xs=[.ref p]/\((SqL X.K H p ys/\∀l,H l=none->Q (.ref l) (upd H l (.tup ys)))∨(SqT X.K H p ys/\Q (.ref p) H))):=by
 intro pins s σ H xs us Q I r h
 obtain⟨p,ys,rfl,h⟩:=h
 obtain⟨u,rfl,rx⟩:=vals1 r
 cases rx
 rcases h with ⟨hq,q⟩|⟨hq,q⟩
 ·obtain⟨its,r',pl,hz⟩:=I.list hq
  have hlen:=r'.length
  refine call_tuple_list pl.isList (fun h' kp=>?_) (by simp only[List.size_toArray]<;>omega)
  have I1:Inv X pins σ H {s with heap:=h' }:=I.kept (t':=s.toks) kp
  have I2:Inv X pins σ (upd H h'.objs.size (.tup ys)) {s with heap:=h'.push {cls:=.type "tuple", data:=.seq its.toArray} } :=
   I1.laid (t':=s.toks) (fun b o e=>Heap.get?_push_of_some _ e) (Nat.le_refl _) (show ObjOk X.prog X.w _ _ _ (.tup ys) from ⟨hz,its,r',IsTup.new _ _⟩)
  exact⟨.ref h'.objs.size,_,I2,rfl,q _ (I1.hok.fresh (Nat.le_refl _))⟩
 ·obtain⟨its,r',pl,hz⟩:=I.tuple hq
  exact call_tuple_same pl ⟨.ref p,H,I,rfl,q⟩
def tyV(K:PySem.W.Frag)(T:String)(x:V)(H:Hp):Prop:=match x with
 | .str _=>T = "str"
 | .int _=>T = "int"
 | .ref p=>(T = "list" /\ ∃xs,SqL K H p xs)∨(T = "tuple" /\ ∃o,K.lookup p=some o/\o.cls=.type "tuple" /\ o.dict=none) ∨
   (T = "dict" /\ ((∃kvs,H p=some (.dK kvs))∨∃kvs,H p=some (.dT kvs)))∨(T = "set" /\ ∃S n,H p=some (.set S n))
 | _=>False
theorem tyV_is{pins:List (Addr×Obj)}{σ:St}{H:Hp}{s:Shared}{T:String}{x:V}{v:Value}(I:Inv X pins σ H s)(r:RelV x v)(ty:tyV X.K T x H) :
  s.TypeIs v T/\∀a,v=.ref a->∃ob,s.heap.get? a=some ob/\ob.dict=none:=by
 cases x with
 | str z =>
  obtain⟨t,rfl⟩:=r
  cases (show T = "str" from ty)
  exact⟨typeIs_str s z t,fun _ e=>nomatch e⟩
 | int i =>
  obtain⟨t,rfl⟩:=r
  cases (show T = "int" from ty)
  exact⟨typeIs_int s i t,fun _ e=>nomatch e⟩
 | ref p =>
  cases r
  rcases ty with ⟨rfl,xs,hq⟩|⟨rfl,o,hk,hc,hd⟩|⟨rfl,hk⟩|⟨rfl,S,n,hk⟩
  ·obtain⟨its,_,pl,_⟩:=I.list hq
   refine⟨pl.isList.typeIs,fun a e=>?_⟩
   cases e
   obtain⟨o,n,e,c,hd,_⟩:=pl
   exact⟨o,e,hd⟩
  ·refine⟨⟨o,I.kIn p o hk,hc⟩,fun a e=>?_⟩
   cases e
   exact⟨o,I.kIn _ o hk,hd⟩
  ·have z:∃o,s.heap.get? p=some o/\o.ExactDict:=by
    rcases hk with ⟨kvs,hk⟩|⟨kvs,hk⟩
    ·obtain⟨_,_,_,_,o,_,_,e,ex,_⟩:=I.hok p _ hk
     exact⟨o,e,ex⟩
    ·obtain⟨_,_,_,_,o,_,_,e,ex,_⟩:=I.hok p _ hk
     exact⟨o,e,ex⟩
   obtain⟨o,e,ex⟩:=z
   refine⟨⟨o,e,ex.1⟩,fun a e2=>?_⟩
   cases e2
   exact⟨o,e,ex.2.1⟩
  ·obtain⟨o,_,_,_,e,ex,_⟩:=I.hok p _ hk
   refine⟨⟨o,e,ex.1⟩,fun a e2=>?_⟩
   cases e2
   exact⟨o,e,ex.2.1⟩
 | _=>exact False.elim ty
def tBM(K:PySem.W.Frag)(T:String)(r:V->List V->Hp->VK->Prop)(to:TE)(t:TA):TE:=fun σ H Q=>to σ H fun x H1=>tyV K T x H1/\t σ H1 fun xs H2=>r x xs H2 Q
variable {o e:Expr} {es:List Expr} {to:TE} {t:TA} {name:Str} {apos cpos:Pos} {T id:String} {r:V->List V->Hp->VK->Prop}
theorem pe_bm(pa:PlainAttrs T)(slot:Slot T name id) (hty:typeOf (.builtin id)=pure (.type "method_descriptor")) (hm:MtR X id r) (ho:PE X o to) (ha:PA X (e::es) t)
  (hbase:attributeBase o name X.env (eval o X.env)=eval o X.env:=by rfl)
  (hfew:((backTo cpos (starEach (e::es) X.env)).all (fun x=>!x.1)&&(backToKw cpos (keywordEach [] X.env)).all (fun x=>x.1.isSome)
   && decide ((e::es).length + ([]:List Keyword).length + (if ([]:List Keyword).isEmpty then 0 else 1) < 30))=true:=by rfl)
  (hline:(apos.endLine==cpos.line)=true:=by rfl) (hs:starEach (e::es) X.env=(false,eval e X.env)::starEach es X.env:=by rfl) (hplain:(backTo cpos (starEach es X.env)).any (·.1)=false:=by rfl) :
  PE X (.Call (.Attribute o name apos) (e::es) [] cpos) (tBM X.K T r to t):=by
 intro pins s σ H Q I h
 refine wpAny_Call_method_late hbase hfew hline rfl (thn (ho pins s σ H _ I h) fun v s1 ⟨x,H1,I1,r1,ty,q1⟩=>?_)
 obtain⟨h1,h2⟩:=tyV_is I1 r1 ty
 refine⟨T,id,pa,slot,hty,h1,h2,?_⟩
 have hA:=ha cpos pins s1 σ H1 _ I1 q1
 rw[hs]at hA ⊢
 refine Calls.callWith_builtin (by show (false||(backTo cpos (starEach es X.env)).any (·.1))=false;rw[hplain]<;>rfl) (Calls.evalArgs_plain ?_)
 exact thn hA fun us s2 ⟨vs,H2,I2,r2,q2⟩=>hm pins s2 σ H2 x vs v us Q I2 r1 r2 q2
end
end L2
namespace L2
open PySem PySem.Spec PyProof.Rows
def MtM(X:Cx)(id:String)(r:V->List V->Hp->VK->Prop):Prop :=
 ∀(pins:List (Addr×Obj))(s:Shared)(σ:St)(H:Hp)(x:V)(xs:List V)(v:Value)(us:List Value)(Q:VK),Inv X pins σ H s->RelV x v->Vals xs us->r x xs H Q →
  wpAny (model X.prog X.w) X.A (call (.builtin id) (v::us)) (EP X pins σ Q) X.xe s
theorem Vals.one:∀{x:V}{us:List Value},Vals [x] us->∃u,us=[u]/\RelV x u
 | _,_,.cons r .nil=>⟨_,rfl,r⟩
theorem Vals.eraseIdx:∀{xs:List V}{us:List Value}(i:Nat),Vals xs us->Vals (xs.eraseIdx i) (us.eraseIdx i)
 | _,_,_,.nil=>.nil
 | _,_,0,.cons _ t=>t
 | _,_,i + 1,.cons r t=>.cons r (Vals.eraseIdx i t)
theorem Vals.reverse{xs:List V}{us:List Value}(h:Vals xs us):Vals xs.reverse us.reverse:=by
 induction h with
 | nil=>exact .nil
 | cons r t ih=>rw[List.reverse_cons,List.reverse_cons];exact Vals.append ih (.cons r .nil)
theorem Vals.rep{xs:List V}{us:List Value}(h:Vals xs us):∀k:Nat,Vals (List.replicate k xs).flatten (List.replicate k us).flatten
 | 0=>.nil
 | k + 1=>by
  rw[List.replicate_succ,List.replicate_succ,List.flatten_cons,List.flatten_cons]
  exact Vals.append h (Vals.rep h k)
section
variable {X:Cx} {pins:List (Addr×Obj)} {σ:St} {H:Hp} {s:Shared} {l b:Addr} {xs ys zs:List V}
theorem Inv.lset{its its':List Value}{n:Nat}{f:Array Value->Array Value}{t':Nat}(I:Inv X pins σ H s)(hH:H l=some (.lst xs))
  (e:s.heap.get? l=some {cls:=.type "list", data:=.seq its.toArray n}) (hf:f its.toArray=its'.toArray) (hv:Vals ys its') (hz:ys.length<=sizeLine) :
  Inv X pins σ (upd H l (.lst ys)) {s with heap:=s.heap.update l (Obj.mapSeq f),toks:=t' }:=by
 have q:=PySem.IsL.update e f
 rw[hf]at q
 refine I.write (x:=l) (e:=l) (by rw[hH];exact trivial) (.inl rfl) (fun b' u hb hu=>(Heap.get?_update_other s.heap (Obj.mapSeq f) (Ne.symm hb)).trans hu) ⟨_,q⟩ ?_
 exact⟨hz,its',_,hv,q⟩
theorem Inv.fresh(I:Inv X pins σ H s):H s.heap.objs.size=none:=I.hok.fresh (Nat.le_refl _)
theorem Inv.lstM(I:Inv X pins σ H s)(hH:H l=some (.lst xs)):xs.length<=sizeLine/\∃(its:List Value) (n:Nat),Vals xs its/\xs.length=its.length/\s.heap.get? l=some {cls:=.type "list", data:=.seq its.toArray n}:=by
 obtain⟨z,its,n,r,e⟩:=I.hok l _ hH
 exact⟨z,its,n,r,r.length,e⟩
end
section
variable {X:Cx}
def rAppend:V->List V->Hp->VK->Prop:=fun x vs H Q=>∃l xs y,x=.ref l/\vs=[y]/\H l=some (.lst xs)/\xs.length < sizeLine/\Q .non (upd H l (.lst (xs++[y])))
theorem mt_append:MtM X "list.append" rAppend:=by
 intro pins s σ H x vs v us Q I rx rv h
 obtain⟨l,xs,y,rfl,rfl,hH,hz,q⟩:=h
 cases rx
 obtain⟨u,rfl,ru⟩:=rv.one
 obtain⟨z,its,n,r,hl,e⟩:=I.lstM hH
 refine call_meets F.slot_list_append ⟨_,e,rfl⟩ F.entry_list_append (F.args_list_append_2 _ _) (PySem.list_append l its.toArray n u (by rw[List.size_toArray];omega)) ⟨e,?_⟩
 refine⟨.non,_,I.lset (its':=its++[u]) hH e (by simp) (r.append (.cons ru .nil)) ?_,rfl,q⟩
 rw[List.length_append,List.length_singleton]
 omega
end
section
variable {prog:Program} {w:World} {A:Around} {E:Value->Shared->Prop} {s:Shared}
end
section
variable {X:Cx}
end
end L2
namespace Att
open PySem PySem.W PySem.Calls PyProof.Rows
theorem ints_of_wellAll{P:Params}{h:Heap}:∀(ns:List Int)(vs:List Value),WellAll P h vs (ns.map WData.int)->IntsAre vs ns:=by
 intro ns
 induction ns with
 | nil =>
  intro vs w
  rw[List.map_nil]at w
  cases w
  exact .nil
 | cons n ns ih =>
  intro vs w
  rw[List.map_cons]at w
  cases w with
  | cons a b =>
   cases a
   exact .cons _ _ (ih _ b)
theorem script_of{l:OpenLaw}{n:Nat}(hn:l.most=some n){P:Params}{h:Heap}{args:List WData}{vals:List Value}
  (hpre:l.row.toRowW.claim.pre args=true) (hwl:WellAll P h vals args) :
  ∃a vs ns,vals=[Value.ref a]/\args=[WData.list (ns.map WData.int)]/\h.get? a=some {cls:=.type "list", data:=.seq vs.toArray}/\IntsAre vs ns/\ns.length<=n:=by
 have hsh:WShape.hasAll [] args [.list .int]=true:=(pre_splitW hpre).1
 have hc:l.pre.holds [] {args:=args}=true:=(pre_splitW hpre).2
 obtain⟨d,r,rfl,h1,h2⟩:=hasAllW_cons hsh
 obtain rfl:=hasAllW_nil h2
 obtain⟨xs,rfl,h3⟩:=hasW_list h1
 obtain⟨ns,rfl⟩:=items_int h3
 have hlen:ns.length<=n:=by
  unfold OpenLaw.pre at hc
  have h4:(WTm.not (.lt (.lit (.int (n:Int))) (.len (.arg 0)))).holds [] {args:=[.list (ns.map .int)]}=true:=by
   have h4:=(holds_andW hc).1
   rw[hn]at h4
   exact h4
  have h5:=condW_of h4 (w_not (w_lt w_lit (w_len_list (w_arg rfl))))
  rw[List.length_map]at h5
  refine Nat.le_of_not_lt fun q=>?_
  have q':(n:Int) < ((ns.length:Nat):Int):=by omega
  first
   | (rw[decide_eq_true q']at h5;exact absurd h5 (by decide))
   | (simp at h5;omega)
 cases hwl with
 | cons w1 w2 =>
  cases w2
  cases w1 with
  | list ho hall=>exact⟨_,_,ns,rfl,rfl,ho,ints_of_wellAll ns _ hall,hlen⟩
theorem post_true(l:OpenLaw)(args:List WData):l.row.toRowW.claim.post args (.bool true) args=true :=
 postW_of (r:=l.row.toRowW) (X:=(true==true))
  (show WShape.has [] (.bool true) .bool=true by first|rfl|decide|simp[WShape.has,WShape.arms,WShape.armsAll])
  (show (WTm.eq .res (.lit (.bool true))).value [] {args:=args,res:=some (.bool true),after:=args}=some (.bool (true==true)) from w_eq_bool (w_res rfl) w_lit) rfl
theorem attach_call{l:OpenLaw}{n:Nat}{q:Program}{loose:List Str}{XP:(Str->Option Value)->Heap->Prop}{YP:World->Heap->Prop}{d:DefRec}
  (hn:l.most=some n) (hdf:d.params.defaults=[])
  (call:∀(w:World)(s₀ s₁:Shared)(mg mb:Str->Option Value)(fa:Addr)(o:Obj)(pm cd doc:Value)(a:Addr)(vs:List Value)(ns:List Int),
   Ground q loose [] XP w s₀ mg mb s₁.heap->YP w s₁.heap →
   s₁.heap.get? fa=some o->o.data=.func (docDef d.name d.params d.body d.scope pm cd doc)->s₁.heap.CodeRec cd d.name->mg d.name=some (.ref fa) →
   s₁.heap.get? a=some {cls:=.type "list", data:=.seq vs.toArray}->IntsAre vs ns->ns.length<=n->s₁.gens=#[] →
   codeAny (model l.prog w) callerA (.call (.ref fa) ⟨[.ref a],[]⟩) (fun r s'=>r=.ok (.ret (.bool true))/\OldK s₁.heap s'.heap/\s'.os=s₁.os/\AllBare s'.gens) s₁) :
  WalkO q loose XP YP l.row.toRowW d [] (fun f vs=>PySem.call f vs):=by
 intro w s₀ s₁ mg mb G Y fa o pm cd doc dV kV ho hd hcd hD hmg hg args vals as hpre hlay hrd hwl hlo
 obtain rfl:dV=.none:=Dflts.none hD hdf
 obtain rfl:kV=.none:=Dflts.noKw hD
 obtain⟨a,vs,ns,rfl,rfl,hobj,hints,hlen⟩:=script_of hn hpre hwl
 refine enter_call (codeAny_mono (call w s₀ s₁ mg mb fa o pm cd doc a vs ns G Y ho (fd_plain hd) hcd hmg hobj hints hlen hg) fun r s' hq=>?_)
 obtain⟨rfl,h2,h3,h4⟩:=hq
 exact⟨.inl ⟨.bool true,.bool true,[],rfl,fun _=>rfl,.bool true,post_true l _,fun _=>⟨List.Pairwise.nil,fun _ hm=>(nomatch hm)⟩⟩,h2,h3,h4⟩
section
variable {prog:Program} {w:World} {A:Around} {E:Value->Shared->Prop} {s:Shared} {K:Frag}
def ledger(h:Heap)(L d:Addr):List (Addr×Obj):=(List.range h.objs.size).filterMap fun a=>if a=L∨a=d then none else (h.get? a).map fun o=>(a,o)
end
end Att
namespace L2
open PySem PySem.Spec PyProof.Rows
theorem vals_ints:∀{vs:List Value}{ns:List Int},IntsAre vs ns->Vals (ns.map V.int) vs
 | _,_,.nil=>.nil
 | _,_,.cons n t h=>.cons ⟨t,rfl⟩ (vals_ints h)
def Only(H:Hp):Prop:=∀b,H b=none∨∃o xs,H b=some (.frz o (.lst xs))
theorem law_call{P:Program}{w:World}{K:PySem.W.Frag}{mg mb:Str->Option Value}{CX:CXT}{k:Nat}{fa a:Addr}{fd:FuncData}{x:Str}{sp:Sp}{s₁:Shared}{vs:List Value}{ns:List Int}
  (KX:K.In s₁.heap) (hns:s₁.heap.Ns mainGlobals mg) (hb:s₁.heap.Ns builtinsNs mb) (hbb:∀x:Str,x ≠ "__name__" -> mb x=bootBuiltins x) (hlim:s₁.heap.NoLimit) (hg:s₁.gens=#[])
  (ha:s₁.heap.get? a=some {cls:=.type "list", data:=.seq vs.toArray}) (hi:IntsAre vs ns) (hl:ns.length<=sizeLine) (hr:Room k callerA)
  (F:∀base:Heap,K.In base->base.Ns mainGlobals mg->FnOk P w K mg base CX k fa fd [x] sp) (hbind:∀(s:Shared)(u:Value),BindsTo s fd ⟨[u],[]⟩ [(x,u)])
  (hsp:∀H:Hp,Only H->SqL K H a (ns.map V.int)->sp [.ref a] H (fun v _=>v=.bl true) fun _ _ _=>False)
  (hCX:∀H e s',CX [] H s₁ (fun _ _ _=>False) e s'->False) :
  codeAny (model P w) callerA (.call (.ref fa) ⟨[.ref a],[]⟩) (fun r s'=>r=.ok (.ret (.bool true))/\OldK s₁.heap s'.heap/\s'.os=s₁.os/\AllBare s'.gens) s₁:=by
 have rv:=vals_ints hi
 have lenV:=hi.length
 have core:∀H:Hp,Only H->SqL K H a (ns.map V.int)->HOk P w H s₁.heap->(∀b,H b≠none->b=a)->(H a≠none->K.lookup a=none) →
   codeAny (model P w) callerA (.call (.ref fa) ⟨[.ref a],[]⟩) (fun r s'=>r=.ok (.ret (.bool true))/\OldK s₁.heap s'.heap/\s'.os=s₁.os/\AllBare s'.gens) s₁:=by
  intro H hO hS hok hA hK
  have base_of:∀{b:Addr}{o:Obj},s₁.heap.get? b=some o->H b=none->(hidT s₁.heap H).get? b=some o:=fun e n=>hidT_get e n
  have noA:∀{b:Addr}{o:Obj}{es:Array DictEntry}{ep:Nat},s₁.heap.get? b=some o->o.data=.dict es ep->H b=none:=fun {b o es ep} e d=>by
   cases q:H b with
   | none=>rfl
   | some u =>
    have e':b=a:=hA b (by rw[q];simp)
    subst e'
    rw[ha]at e;cases e
    have d':Data.seq vs.toArray _=Data.dict es ep:=d
    cases d'
  have nsK:∀{b:Addr}{m:Str->Option Value},s₁.heap.Ns b m->(hidT s₁.heap H).Ns b m:=fun {b m} ⟨o,es,ep,e,d,r⟩=>⟨o,es,ep,base_of e (noA e d),d,r⟩
  have hKb:K.In (hidT s₁.heap H):=fun b o e=>base_of (KX b o e) (by
   cases q:H b with
   | none=>rfl
   | some u =>
    have e':b=a:=hA b (by rw[q];simp)
    subst e'
    rw[hK (by rw[q];simp)]at e;cases e)
  have hM:Mod K mg (hidT s₁.heap H):=⟨hKb,nsK hns,⟨mb,nsK hb,hbb⟩,let ⟨mc,h1,h2⟩:=hlim;⟨mc,nsK h1,h2⟩⟩
  have e0:Env0 P w K mg (hidT s₁.heap H) callerA [] s₁ H:=⟨rfl,hM,fun b o e=>of_hidT e,Nat.le_of_eq (hidT_size _ _),trivial,fun b hb=>absurd (show b∈([]:List Addr) from hb) (by simp),hok,.of_eq hg⟩
  refine codeAny_mono ((F _ hKb (nsK hns)).run callerA [] s₁ H ⟨[.ref a],[]⟩ [.ref a] [.ref a] _ _ hr e0 (hbind s₁ (.ref a)) (.cons rfl .nil) (hsp H hO hS)) fun r s' h=>?_
  cases r with
  | error e=>exact(hCX H e s' h).elim
  | ok fl =>
   cases fl with
   | next=>exact False.elim h
   | brk=>exact False.elim h
   | cont=>exact False.elim h
   | ret u =>
    obtain⟨v,H',os,bare,un,hok',r',q⟩:=h
    have q':v=.bl true:=q
    subst q'
    obtain rfl:u=Value.bool true:=r'
    refine⟨rfl,OldK.of_keep fun b o e=>?_,os,bare⟩
    cases q:H b with
    | none=>exact un.keep b o e q (by intro z;exact absurd (show b∈([]:List Addr) from z) (by simp)) (by simp)
    | some u =>
     rcases hO b with z|⟨ob,xs,z⟩
     ·rw[q]at z;cases z
     ·have z2:=un.frzs b ob _ z
      obtain⟨e1,_⟩:=hok b _ z
      obtain⟨e2,_⟩:=hok' b _ z2
      rw[e]at e1;cases e1
      exact e2
 cases hk:K.lookup a with
 | some o =>
  have e:=KX a o hk
  rw[ha]at e
  cases e
  refine core (fun _=>none) (fun _=>.inl rfl) (.inr ⟨_,vs.toArray,_,hk,rfl,rfl,rfl,by rw[List.size_toArray,lenV];exact hl,by simpa using rv⟩) (fun b u z=>by have z':(none:Option HO)=some u:=z;cases z') (fun b z=>absurd rfl z) fun z=>absurd rfl z
 | none =>
  refine core (fun b=>if b=a then some (.frz {cls:=.type "list", data:=.seq vs.toArray} (.lst (ns.map V.int))) else none) (fun b=>?_) (.inl (.inr ⟨{cls:=.type "list", data:=.seq vs.toArray},if_pos rfl⟩)) (fun b u z=>?_) (fun b z=>?_) fun _=>hk
  ·by_cases hb:b=a
   ·exact .inr ⟨_,_,if_pos hb⟩
   ·exact .inl (if_neg hb)
  ·by_cases hb:b=a
   ·have z':=(if_pos hb).symm.trans z
    cases z'
    subst hb
    exact⟨ha,by rw[List.length_map];exact hl,vs,_,rv,ha⟩
   ·have z':=(if_neg hb).symm.trans z
    cases z'
  ·by_cases hb:b=a
   ·exact hb
   ·exact absurd (if_neg hb) z
end L2
namespace L2
open PySem PySem.Spec PyProof.Rows
abbrev KOf{K:PySem.W.Frag}{h:Heap}(_:K.In h):PySem.W.Frag:=K
theorem walk_of{l:PySem.W.OpenLaw}{n k:Nat}{q:Program}{loose:List Str}{XP:(Str->Option Value)->Heap->Prop}{YP:World->Heap->Prop}{d:DefRec}{K:Params->PySem.W.Frag}{CX:World->CXT}{sp:World->Sp}{x:Str}
  (hn:l.most=some n) (hn2:n<=sizeLine) (hdf:d.params.defaults=[]) (hr:Room k callerA)
  (hY:∀(w:World)(h:Heap),YP w h->(K w.params).In h)
  (F:∀(w:World)(mg:Str->Option Value)(fa:Addr)(h:Heap),(K w.params).In h->h.Ns mainGlobals mg->mg d.name=some (.ref fa) →
   ∃fd:FuncData,(∀(s:Shared)(u:Value),BindsTo s fd ⟨[u],[]⟩ [(x,u)]) ∧
    ∀base:Heap,(K w.params).In base->base.Ns mainGlobals mg->FnOk l.prog w (K w.params) mg base (CX w) k fa fd [x] (sp w))
  (hsp:∀(w:World)(H:Hp)(a:Addr)(ns:List Int),ns.length<=n->Only H->SqL (K w.params) H a (ns.map V.int)->sp w [.ref a] H (fun v _=>v=.bl true) fun _ _ _=>False)
  (hCX:∀(w:World)(H:Hp)(s:Shared)(e:Value)(s':Shared),CX w [] H s (fun _ _ _=>False) e s'->False) :
  PySem.W.WalkO q loose XP YP l.row.toRowW d [] (fun f vs=>PySem.call f vs):=by
 refine Att.attach_call hn hdf fun w s₀ s₁ mg mb fa o pm cd doc a vs ns G Y ho hd hcd hmg hobj hints hlen hg=>?_
 have KX:=hY w _ Y
 obtain⟨fd,hb,hF⟩:=F w mg fa _ KX G.T.g hmg
 exact law_call KX G.T.g G.T.b G.T.builtins G.T.nolimit hg hobj hints (Nat.le_trans hlen hn2) hr hF hb (fun H hO hS=>hsp w H a ns hlen hO hS) fun H e s'=>hCX w H s₁ e s'
end L2
namespace L2
open PySem PySem.Spec PyProof.Rows
def defArgs(s:Stmt):Arguments:=match s with
 | .FunctionDef _ a _ _ _ _ _ _ _ _=>a
 | _=>{posonlyargs:=[],args:=[],vararg:=none,kwonlyargs:=[],kw_defaults:=[],kwarg:=none,defaults:=[]}
def defBody(s:Stmt):List Stmt:=match s with
 | .FunctionDef _ _ b _ _ _ _ _ _ _=>b
 | _=>[]
def defScope(s:Stmt):Scope:=match s with
 | .FunctionDef _ _ _ _ _ _ sc _ _ _=>sc
 | _=>{kind:=.function,names:=[],isGenerator:=false,isCoroutine:=false}
abbrev CX0:CXT:=fun _ _ _ _ _ _=>False
abbrev E0:XK:=fun _ _ _=>False
theorem pass0{X:Cx}:Passes CX0 X E0:=fun _ _ _ _ _ _ _ h=>h.elim
structure Fun(K:PySem.W.Frag)(x qual:Str)(st:Stmt)(f:Addr)(fd:FuncData):Prop where
 ex:∃(oc:Value) (od:Option Addr) (kV doc pm:Value) (an:Option Addr) (cdv ct:Value) (osl:Array (Option Value)),
  fd=PySem.W.fnOf x qual (defArgs st) (defBody st) (defScope st) .none kV doc pm an cdv ct/\K.lookup f=some ⟨oc,od,.func fd,osl⟩/\PySem.W.codeIn K cdv qual=true
 kp:PySem.W.keepIn K (.ref f)=true
section
variable {P:Program} {w:World} {K:PySem.W.Frag} {mg:Str->Option Value} {base:Heap}
theorem Fun.ok{x qual:Str}{st:Stmt}{f:Addr}{fd:FuncData}{N ps:List Str}{k:Nat}{sp:Sp}(F:Fun K x qual st f fd)(S:FnScope N ps (defScope st))(len:∀vs H Q E,sp vs H Q E->vs.length=ps.length)
  (hbody:∀(cdv:Value)(A:Around)(outer:List Env)(s:Shared)(H:Hp)(vs:List V)(Q:VK)(E:XK),Room k (A.deeper (envOfC qual (defScope st) s.heap.objs.size f cdv))->sp vs H Q E →
   ∃t,PSs (cxOf CX0 P w K mg base N qual (defScope st) f cdv A outer s H E).nox (defBody st) t/\t {nx:=fun _ H'=>Q .non H',rt:=Q} (start N vs) H):FnOk P w K mg base CX0 (k + 1) f fd ps sp:=by
 obtain⟨oc,od,kV,doc,pm,an,cdv,ct,osl,rfl,lk,hcd⟩:=F.ex
 refine fn_of lk hcd S len fun A outer s H vs Q E hr hsp=>?_
 obtain⟨t,h,q⟩:=hbody cdv A outer s H vs Q E hr hsp
 exact⟨t,h.nox,q⟩
theorem Fun.binds{x qual:Str}{st:Stmt}{f:Addr}{fd:FuncData}{ps:List Str}(F:Fun K x qual st f fd)
  (h:∀(kV doc pm:Value)(an:Option Addr)(cdv ct:Value)(us:List Value),us.length=ps.length->bindArgs (PySem.W.fnOf x qual (defArgs st) (defBody st) (defScope st) .none kV doc pm an cdv ct) ⟨us,[]⟩=pure (ps.zip us)):Binds K fd ps []:=by
 obtain⟨oc,od,kV,doc,pm,an,cdv,ct,osl,rfl,lk,hcd⟩:=F.ex
 exact .all (h kV doc pm an cdv ct)
theorem fun_mk{x qual:Str}{st:Stmt}{f:Addr}{oc:Value}{od an:Option Addr}{osl:Array (Option Value)}{kV doc pm cdv ct:Value}(l:K.lookup f=some ⟨oc,od,.func (PySem.W.fnOf x qual (defArgs st) (defBody st) (defScope st) .none kV doc pm an cdv ct),osl⟩)
  (c:PySem.W.codeIn K cdv qual=true) (k:PySem.W.keepIn K (.ref f)=true):Fun K x qual st f (PySem.W.fnOf x qual (defArgs st) (defBody st) (defScope st) .none kV doc pm an cdv ct):=⟨⟨oc,od,kV,doc,pm,an,cdv,ct,osl,rfl,l,c⟩,k⟩
end
theorem small1000{n:Nat}(h:n<=1000):n < sizeLine:=Nat.lt_of_le_of_lt h (by decide)
section
variable {X:Cx}
theorem pv(i:Nat){x:Str}{pos:Pos}(hN:X.N[i]?=some x:=by rfl)(hv:Vis X.env.scope x:=by first|exact Or.inl rfl|exact Or.inr (Or.inl rfl)|exact Or.inr (Or.inr rfl)) (hd:(x==("__debug__" : Str))=false:=by decide)
  (hcd:(x==("__classdict__" : Str))=false:=by decide):PE X (.Name x pos) (tVar i):=pe_var hN hv hd hcd
end
def Same(H H':Hp):Prop:=∀b o,H b=some o->H' b=some o
theorem Same.refl(H:Hp):Same H H:=fun _ _ h=>h
theorem Same.trans{H H1 H2:Hp}(a:Same H H1)(b:Same H1 H2):Same H H2:=fun c o h=>b c o (a c o h)
theorem Same.free{H H':Hp}(e:Same H H'){l:Addr}(h:H' l=Option.none):H l=Option.none:=by
 cases q:H l with
 | none=>rfl
 | some o =>
  rw[e l o q]at h
  cases h
theorem Same.seq{K:PySem.W.Frag}{H H':Hp}{a:Addr}{xs:List V}(e:Same H H')(h:SqL K H a xs):SqL K H' a xs:=by
 rcases h with (h|⟨o,h⟩)|h
 ·exact .inl (.inl (e _ _ h))
 ·exact .inl (.inr ⟨o,e _ _ h⟩)
 ·exact .inr h
end L2
section
namespace L2
open PySem PySem.Spec PyProof.Rows
section
variable {κ:Type} [DecidableEq κ]
def valV(kvs:List (κ×V))(k:κ):Option V:=(kvs.find? fun kv=>decide (kv.1=k)).map (·.2)
def putK(kvs:List (κ×V))(k:κ)(v:V):List (κ×V) :=
 if (kvs.any fun kv=>decide (kv.1=k))=true then kvs.map (fun kv=>if kv.1=k then (kv.1,v) else kv) else kvs++[(k,v)]
def dropK(kvs:List (κ×V))(k:κ):List (κ×V):=kvs.filter fun kv=>decide (kv.1≠k)
theorem valV_pos{p:κ×V}{r:List (κ×V)}{k:κ}(e:p.1=k):valV (p::r) k=some p.2:=by simp[valV,List.find?_cons,e]
theorem valV_neg{p:κ×V}{r:List (κ×V)}{k:κ}(e:¬ p.1=k):valV (p::r) k=valV r k:=by simp[valV,List.find?_cons,e]
theorem valV_any(k:κ):∀kvs:List (κ×V),(kvs.any fun kv=>decide (kv.1=k))=(valV kvs k).isSome
 | []=>rfl
 | p::r=>by
  rw[List.any_cons]
  by_cases e:p.1=k
  ·simp only[valV_pos e,decide_eq_true e,Bool.true_or,Option.isSome_some]
  ·rw[valV_neg e,decide_eq_false e,Bool.false_or];exact valV_any k r
theorem putK_new{kvs:List (κ×V)}{k:κ}(v:V)(h:valV kvs k=none):putK kvs k v=kvs++[(k,v)]:=by
 unfold putK
 rw[valV_any,h]
 exact if_neg (by decide)
theorem RelO.isSome_eq{o:Option V}{u:Option Value}(r:RelO o u):o.isSome=u.isSome:=by
 cases o with
 | none=>cases u with
  | none=>rfl
  | some _=>exact(show False from r).elim
 | some _=>cases u with
  | none=>exact(show False from r).elim
  | some _=>rfl
theorem RelO.getD{o:Option V}{u:Option Value}{d:V}{d':Value}(r:RelO o u)(rd:RelV d d'):RelV (o.getD d) (u.getD d'):=by
 cases o with
 | none=>cases u with
  | none=>exact rd
  | some _=>exact(show False from r).elim
 | some _=>cases u with
  | none=>exact(show False from r).elim
  | some _=>exact r
theorem KV.val{kvs:List (κ×V)}{vs:List (κ×Value)}(r:KV kvs vs)(k:κ):RelO (valV kvs k) (valueAt vs k):=by
 unfold KV at r
 induction r with
 | nil=>exact True.intro
 | @cons p q ps qs h t ih =>
  obtain⟨h1,h2⟩:=h
  by_cases e:p.1=k
  ·have e':q.1=k:=h1.symm.trans e
   have b:valueAt (q::qs) k=some q.2:=by simp[valueAt,List.find?_cons,e']
   rw[valV_pos e,b];exact h2
  ·have e':¬ q.1=k:=fun z=>e (h1.trans z)
   have b:valueAt (q::qs) k=valueAt qs k:=by simp[valueAt,List.find?_cons,e']
   rw[valV_neg e,b];exact ih
theorem KV.any{kvs:List (κ×V)}{vs:List (κ×Value)}(r:KV kvs vs)(k:κ):(kvs.any fun kv=>decide (kv.1=k))=vs.any fun kv=>decide (kv.1=k):=by
 unfold KV at r
 induction r with
 | nil=>rfl
 | cons h t ih=>rw[List.any_cons,List.any_cons,ih,h.1]
theorem KV.repl{kvs:List (κ×V)}{vs:List (κ×Value)}(r:KV kvs vs)(k:κ){y:V}{u:Value}(ry:RelV y u) :
  KV (kvs.map fun kv=>if kv.1=k then (kv.1,y) else kv) (vs.map fun kv=>if kv.1=k then (kv.1,u) else kv):=by
 unfold KV at r ⊢
 induction r with
 | nil=>exact .nil
 | @cons p q ps qs h t ih =>
  rw[List.map_cons,List.map_cons]
  refine .cons ?_ ih
  obtain⟨h1,h2⟩:=h
  by_cases e:p.1=k
  ·rw[if_pos e,if_pos (h1.symm.trans e)];exact⟨h1,ry⟩
  ·rw[if_neg e,if_neg (fun z=>e (h1.trans z))];exact⟨h1,h2⟩
theorem KV.put{kvs:List (κ×V)}{vs:List (κ×Value)}(r:KV kvs vs)(k:κ){y:V}{u:Value}(ry:RelV y u):KV (putK kvs k y) (stored vs k u):=by
 unfold putK stored
 rw[r.any k]
 by_cases e:(vs.any fun kv=>decide (kv.1=k))=true
 ·rw[if_pos e,if_pos e];exact r.repl k ry
 ·rw[if_neg e,if_neg e];exact Paired.snoc r ⟨rfl,ry⟩
theorem KV.drop{kvs:List (κ×V)}{vs:List (κ×Value)}(r:KV kvs vs)(k:κ):KV (dropK kvs k) (without vs k):=by
 unfold KV at r ⊢
 unfold dropK without
 induction r with
 | nil=>exact .nil
 | @cons p q ps qs h t ih =>
  obtain⟨h1,h2⟩:=h
  rw[List.filter_cons,List.filter_cons]
  by_cases e:p.1=k
  ·have a:¬ decide (p.1≠k)=true:=by simp[e]
   have b:¬ decide (q.1≠k)=true:=by simp[h1.symm.trans e]
   rw[if_neg a,if_neg b];exact ih
  ·have e':¬ q.1=k:=fun z=>e (h1.trans z)
   have a:decide (p.1≠k)=true:=by simp[e]
   have b:decide (q.1≠k)=true:=by simp[e']
   rw[if_pos a,if_pos b];exact .cons ⟨h1,h2⟩ ih
theorem KV.length{kvs:List (κ×V)}{vs:List (κ×Value)}(r:KV kvs vs):kvs.length=vs.length:=Paired.length r
end
abbrev KT(H:Hp):List (List Key×V)->List (List Key×Addr×Value)->Prop:=Paired fun p q=>p.1=q.1/\H q.2.1=some (.tup (p.1.map kV))/\RelV p.2 q.2.2
theorem KT.val{H:Hp}{kvs:List (List Key×V)}{xs:List (List Key×Addr×Value)}(r:KT H kvs xs)(k:List Key):RelO (valV kvs k) ((atKey xs k).map (·.2)):=by
 induction r with
 | nil=>exact True.intro
 | @cons p q ps qs h t ih =>
  obtain⟨h1,_,h2⟩:=h
  by_cases e:p.1=k
  ·have e':q.1=k:=h1.symm.trans e
   have b:atKey (q::qs) k=some q.2:=by simp[atKey,List.find?_cons,e']
   rw[valV_pos e,b];exact h2
  ·have e':¬ q.1=k:=fun z=>e (h1.trans z)
   have b:atKey (q::qs) k=atKey qs k:=by simp[atKey,List.find?_cons,e']
   rw[valV_neg e,b];exact ih
theorem KT.repl{H:Hp}{kvs:List (List Key×V)}{xs:List (List Key×Addr×Value)}(r:KT H kvs xs)(k:List Key){y:V}{u:Value}(ry:RelV y u) :
  KT H (kvs.map fun kv=>if kv.1=k then (kv.1,y) else kv) (xs.map (putAt k u)):=by
 induction r with
 | nil=>exact .nil
 | @cons p q ps qs h t ih =>
  rw[List.map_cons,List.map_cons]
  refine .cons ?_ ih
  obtain⟨h1,h2,h3⟩:=h
  unfold putAt
  by_cases e:p.1=k
  ·rw[if_pos e,if_pos (h1.symm.trans e)];exact⟨h1,h2,ry⟩
  ·rw[if_neg e,if_neg (fun z=>e (h1.trans z))];exact⟨h1,h2,h3⟩
theorem KT.put{H:Hp}{kvs:List (List Key×V)}{xs:List (List Key×Addr×Value)}(r:KT H kvs xs)(k:List Key){b:Addr}{y:V}{u:Value}(hb:H b=some (.tup (k.map kV)))(ry:RelV y u) :
  KT H (putK kvs k y) (storedH xs k b u):=by
 have e:(kvs.any fun kv=>decide (kv.1=k))=(atKey xs k).isSome:=by
  rw[valV_any,(r.val k).isSome_eq,Option.isSome_map]
 unfold putK storedH
 rw[e]
 by_cases q:(atKey xs k).isSome=true
 ·rw[if_pos q,if_pos q];exact r.repl k ry
 ·rw[if_neg q,if_neg q];exact Paired.snoc r ⟨rfl,hb,ry⟩
theorem KT.keeps{H H':Hp}{kvs:List (List Key×V)}{xs:List (List Key×Addr×Value)}(r:KT H kvs xs)(ht:∀b ys,H b=some (.tup ys)->H' b=some (.tup ys)):KT H' kvs xs :=
 Paired.mapP r fun _ _ z=>⟨z.1,ht _ _ z.2.1,z.2.2⟩
section
variable {P:Program} {w:World} {H:Hp} {h:Heap} {a:Addr}
end
section
variable {X:Cx} {pins:List (Addr×Obj)} {σ:St} {H:Hp} {s:Shared} {a:Addr} {y v:V} {u r:Value} {o:Option V} {A:Around} {E:Value->Shared->Prop}
end
section
variable {X:Cx} {pins:List (Addr×Obj)} {σ:St} {H:Hp} {s:Shared} {a:Addr} {kvs:List (Key×V)} {k:Key} {u:Value} {A:Around} {E:Value->Shared->Prop}
end
section
variable {X:Cx} {o i e value:Expr} {pos pos' tpos:Pos} {td ty tv:TE}
end
section
variable {X:Cx} {pos:Pos}
end
structure M1(X:Cx)(o:Expr)(m:Str)(apos:Pos)(e:Expr)(cpos:Pos):Prop where
 base:attributeBase o m X.env (eval o X.env)=eval o X.env
 few:((backTo cpos (starEach [e] X.env)).all (fun x=>!x.1)&&(backToKw cpos (keywordEach [] X.env)).all (fun x=>x.1.isSome)
  && decide (([e]:List Expr).length + ([]:List Keyword).length + (if ([]:List Keyword).isEmpty then 0 else 1) < 30))=true
 line:(apos.endLine==cpos.line)=true
 trees:backTo cpos (starEach [e] X.env)=[(false,eval e X.env)]
structure M2(X:Cx)(o:Expr)(m:Str)(apos:Pos)(e f:Expr)(cpos:Pos):Prop where
 base:attributeBase o m X.env (eval o X.env)=eval o X.env
 few:((backTo cpos (starEach [e,f] X.env)).all (fun x=>!x.1)&&(backToKw cpos (keywordEach [] X.env)).all (fun x=>x.1.isSome)
  && decide (([e,f]:List Expr).length + ([]:List Keyword).length + (if ([]:List Keyword).isEmpty then 0 else 1) < 30))=true
 line:(apos.endLine==cpos.line)=true
 trees:backTo cpos (starEach [e,f] X.env)=[(false,eval e X.env),(false,eval f X.env)]
section
variable {X:Cx} {pins:List (Addr×Obj)} {σ:St} {H:Hp} {s:Shared} {a:Addr} {y d:V} {u r:Value} {o:Option V} {A:Around} {E:Value->Shared->Prop}
end
section
variable {X:Cx} {o e f:Expr} {apos cpos:Pos} {td ty tx:TE}
end
section
variable {X:Cx} {pins:List (Addr×Obj)} {σ:St} {H:Hp} {s:Shared} {a:Addr} {kvs:List (Key×V)} {A:Around} {E:Value->Shared->Prop}
end
section
variable {X:Cx} {pins:List (Addr×Obj)} {σ:St} {H:Hp} {s:Shared} {a:Addr} {y:V} {u:Value} {A:Around} {E:Value->Shared->Prop}
end
end L2
namespace L2
open PySem PySem.Spec PyProof.Rows
section
variable {κ:Type} [DecidableEq κ]
theorem valV_in{kvs:List (κ×V)}{k:κ}{v:V}(h:valV kvs k=some v):k∈kvs.map (·.1):=by
 have q:(kvs.any fun kv=>decide (kv.1=k))=true:=by
  rw[valV_any,h]
  all_goals rfl
 obtain⟨p,hp,e⟩:=List.any_eq_true.mp q
 exact List.mem_map.mpr ⟨p,hp,of_decide_eq_true e⟩
end
end L2
end
section
namespace TL
open PySem PySem.Spec PyProof.Rows L2
abbrev St:=L2.St
def nst:Expr->Bool
 | .Starred _ _=>false
 | _=>true
theorem star1{e:Expr}{es:List Expr}{env:Env}(h:nst e=true):starEach (e::es) env=(false,eval e env)::starEach es env:=by
 cases e<;>first|rfl|cases h
theorem stars{env:Env}{pos:Pos}:∀{es:List Expr},es.all nst=true->(backTo pos (starEach es env)).any (·.1)=false
 | [],_=>rfl
 | e::es,h=>by
  rw[List.all_cons,Bool.and_eq_true]at h
  rw[star1 h.1]
  show (false||(backTo pos (starEach es env)).any (·.1))=false
  rw[stars h.2]
  rfl
inductive T where
 | non|bl (b:Bool)|int (i:Int)|str (x:Str)|tup (ts:List T)|lst (ts:List T)|dct|exc (c:Str)|exf (c f:Str) (t:T)|dic (ks:List Int) (ts:List T)
abbrev kn(o:Obj):HO:=.frz o (.ext fun _=>True)
abbrev noDict:Obj:={cls:=.type "dict", data:=.dict #[] 0}
structure ExcAt(K:PySem.W.Frag)(H:Hp)(c:Str)(p:Addr):Prop where
 ex:∃(o:Obj) (C:Addr) (ws:Array Value),H p=some (kn o)/\o.cls=.ref C/\o.data=.fields ws/\PySem.W.nsIn K mainGlobals c=some (some (.ref C))
structure ExfAt(K:PySem.W.Frag)(H:Hp)(c f:Str)(p d:Addr)(od:Obj)(u:Value):Prop where
 ex:∃(o:Obj) (C:Addr) (ws:Array Value),H p=some (kn o)/\o.cls=.ref C/\o.data=.fields ws/\o.dict=some d/\PySem.W.nsIn K mainGlobals c=some (some (.ref C))
 dict:H d=some (kn od)
 look:PySem.W.lookIn f od=some (some u)
def SqF(K:PySem.W.Frag)(H:Hp)(a:Addr)(xs:List V):Prop :=
 (∃o,H a=some (.frz o (.lst xs))) ∨
  ∃(o:Obj) (its:Array Value) (n:Nat),K.lookup a=some o/\o.cls=.type "list" /\ o.dict=none/\o.data=.seq its n/\its.size<=sizeLine/\Vals xs its.toList
abbrev IntP:=Int×V
def toK(q:IntP):Key×V:=(.inl q.1,q.2)
mutual
def Rep(K:PySem.W.Frag)(H:Hp):T->V->Prop
 | .non,v=>v=.non
 | .bl b,v=>v=.bl b
 | .int i,v=>v=.int i
 | .str x,v=>v=.str x
 | .tup ts,v=>∃p vs,v=.ref p/\SqT K H p vs/\Reps K H ts vs
 | .lst ts,v=>∃p vs,v=.ref p/\SqF K H p vs/\Reps K H ts vs
 | .dct,v=>∃p,v=.ref p/\H p=some (kn noDict)
 | .exc c,v=>∃p,v=.ref p/\ExcAt K H c p
 | .exf c f t,v=>∃p,v=.ref p/\∃d od u y,ExfAt K H c f p d od u/\RelV y u/\Rep K H t y
 | .dic ks ts,v=>∃(p:Addr) (o:Obj) (kvs:List (Int×V)),v=.ref p/\H p=some (.frz o (.dK (kvs.map toK)))/\kvs.map (·.1)=ks/\Reps K H ts (kvs.map (·.2))
def Reps(K:PySem.W.Frag)(H:Hp):List T->List V->Prop
 | [],vs=>vs=[]
 | t::ts,vs=>∃v r,vs=v::r/\Rep K H t v/\Reps K H ts r
end
structure Kp(H H':Hp):Prop where
 tup:∀b xs,H b=some (.tup xs)->H' b=some (.tup xs)
 frz:∀b o u,H b=some (.frz o u)->H' b=some (.frz o u)
theorem Kp.refl(H:Hp):Kp H H:=⟨fun _ _ h=>h,fun _ _ _ h=>h⟩
theorem Kp.trans{H H1 H2:Hp}(a:Kp H H1)(b:Kp H1 H2):Kp H H2:=⟨fun c xs h=>b.tup c xs (a.tup c xs h),fun c o u h=>b.frz c o u (a.frz c o u h)⟩
theorem Kp.of{H H':Hp}(s:Same H H'):Kp H H':=⟨fun b _ h=>s b _ h,fun b _ _ h=>s b _ h⟩
theorem same_new{H:Hp}{p:Addr}(h:H p=none)(o:HO):Same H (upd H p o):=fun b u q=>by rw[upd_ne (ne_of_none q h)];exact q
theorem Kp.write{H:Hp}{p:Addr}{xs:List V}(h:H p=some (.lst xs))(o:HO):Kp H (upd H p o) :=
 ⟨fun b ys q=>by rw[upd_ne (by rintro rfl;rw[h]at q;cases q)];exact q,fun b ob u q=>by rw[upd_ne (by rintro rfl;rw[h]at q;cases q)];exact q⟩
section
variable {K:PySem.W.Frag} {H H':Hp}
theorem SqF.sq{a:Addr}{xs:List V}(h:SqF K H a xs):SqL K H a xs:=h.elim (fun ⟨o,e⟩=>.inl (.inr ⟨o,e⟩)) .inr
theorem sqF_kp{a:Addr}{xs:List V}(k:Kp H H')(h:SqF K H a xs):SqF K H' a xs:=h.elim (fun ⟨o,e⟩=>.inl ⟨o,k.frz _ _ _ e⟩) .inr
theorem sqT_kp{a:Addr}{xs:List V}(k:Kp H H')(h:SqT K H a xs):SqT K H' a xs:=by
 rcases h with (h|⟨o,h⟩)|h
 ·exact .inl (.inl (k.tup _ _ h))
 ·exact .inl (.inr ⟨o,k.frz _ _ _ h⟩)
 ·exact .inr h
theorem rep_tup{ts:List T}{v:V}:Rep K H (.tup ts) v ↔ ∃p vs,v=.ref p/\SqT K H p vs/\Reps K H ts vs:=by rw[Rep]
theorem rep_lst{ts:List T}{v:V}:Rep K H (.lst ts) v ↔ ∃p vs,v=.ref p/\SqF K H p vs/\Reps K H ts vs:=by rw[Rep]
theorem rep_int{i:Int}{v:V}:Rep K H (.int i) v ↔ v=.int i:=by rw[Rep]
theorem rep_bl{i:Bool}{v:V}:Rep K H (.bl i) v ↔ v=.bl i:=by rw[Rep]
theorem rep_str{i:Str}{v:V}:Rep K H (.str i) v ↔ v=.str i:=by rw[Rep]
theorem rep_non{v:V}:Rep K H .non v ↔ v=.non:=by rw[Rep]
theorem rep_dct{v:V}:Rep K H .dct v ↔ ∃p,v=.ref p/\H p=some (kn noDict):=by rw[Rep]
theorem rep_exc{c:Str}{v:V}:Rep K H (.exc c) v ↔ ∃p,v=.ref p/\ExcAt K H c p:=by rw[Rep]
theorem rep_exf{c f:Str}{t:T}{v:V}:Rep K H (.exf c f t) v ↔ ∃p,v=.ref p/\∃d od u y,ExfAt K H c f p d od u/\RelV y u/\Rep K H t y:=by rw[Rep]
theorem rep_dic{ks:List Int}{ts:List T}{v:V}:Rep K H (.dic ks ts) v ↔ ∃(p:Addr) (o:Obj) (kvs:List (Int×V)),v=.ref p/\H p=some (.frz o (.dK (kvs.map toK)))/\kvs.map (·.1)=ks/\Reps K H ts (kvs.map (·.2)):=by rw[Rep]
theorem ExfAt.kp{c f:Str}{p d:Addr}{od:Obj}{u:Value}(k:Kp H H')(h:ExfAt K H c f p d od u):ExfAt K H' c f p d od u:=let ⟨o,C,ws,e,r⟩:=h.ex;⟨⟨o,C,ws,k.frz _ _ _ e,r⟩,k.frz _ _ _ h.dict,h.look⟩
theorem ExcAt.kp{c:Str}{p:Addr}(k:Kp H H')(h:ExcAt K H c p):ExcAt K H' c p:=let ⟨o,C,ws,e,r⟩:=h.ex;⟨o,C,ws,k.frz _ _ _ e,r⟩
theorem reps_nil{vs:List V}:Reps K H [] vs ↔ vs=[]:=by rw[Reps]
theorem reps_cons{t:T}{ts:List T}{vs:List V}:Reps K H (t::ts) vs ↔ ∃v r,vs=v::r/\Rep K H t v/\Reps K H ts r:=by rw[Reps]
mutual
theorem Rep.kp(k:Kp H H'):∀{t:T}{v:V},Rep K H t v->Rep K H' t v
 | .non,v,h=>by rw[rep_non]at h ⊢;exact h
 | .bl b,v,h=>by rw[rep_bl]at h ⊢;exact h
 | .int i,v,h=>by rw[rep_int]at h ⊢;exact h
 | .str x,v,h=>by rw[rep_str]at h ⊢;exact h
 | .tup ts,v,h=>by
  rw[rep_tup]at h ⊢
  obtain⟨p,vs,e,s,r⟩:=h
  exact⟨p,vs,e,sqT_kp k s,Reps.kp k r⟩
 | .lst ts,v,h=>by
  rw[rep_lst]at h ⊢
  obtain⟨p,vs,e,s,r⟩:=h
  exact⟨p,vs,e,sqF_kp k s,Reps.kp k r⟩
 | .dct,v,h=>by
  rw[rep_dct]at h ⊢
  obtain⟨p,e,q⟩:=h
  exact⟨p,e,k.frz _ _ _ q⟩
 | .exc c,v,h=>by
  rw[rep_exc]at h ⊢
  obtain⟨p,e,q⟩:=h
  exact⟨p,e,q.kp k⟩
 | .exf c f t,v,h=>by
  rw[rep_exf]at h ⊢
  obtain⟨p,e,d,od,u,y,q,r,a⟩:=h
  exact⟨p,e,d,od,u,y,q.kp k,r,Rep.kp k a⟩
 | .dic ks ts,v,h=>by
  rw[rep_dic]at h ⊢
  obtain⟨p,o,kvs,e,q,ek,r⟩:=h
  exact⟨p,o,kvs,e,k.frz _ _ _ q,ek,Reps.kp k r⟩
theorem Reps.kp(k:Kp H H'):∀{ts:List T}{vs:List V},Reps K H ts vs->Reps K H' ts vs
 | [],vs,h=>by rw[reps_nil]at h ⊢;exact h
 | t::ts,vs,h=>by
  rw[reps_cons]at h ⊢
  obtain⟨v,r,e,a,b⟩:=h
  exact⟨v,r,e,Rep.kp k a,Reps.kp k b⟩
end
theorem Reps.length:∀{ts:List T}{vs:List V},Reps K H ts vs->vs.length=ts.length
 | [],vs,h=>by rw[reps_nil]at h;subst h;rfl
 | t::ts,vs,h=>by
  rw[reps_cons]at h
  obtain⟨v,r,e,a,b⟩:=h
  subst e
  simp[Reps.length b]
theorem Reps.get:∀{ts:List T}{vs:List V}{i:Nat}{t:T},Reps K H ts vs->ts[i]?=some t->∃v,vs[i]?=some v/\Rep K H t v
 | [],vs,i,t,h,e=>by simp at e
 | t::ts,vs,0,t',h,e=>by
  rw[reps_cons]at h
  obtain⟨v,r,rfl,a,b⟩:=h
  simp at e
  subst e
  exact⟨v,rfl,a⟩
 | t::ts,vs,i + 1,t',h,e=>by
  rw[reps_cons]at h
  obtain⟨v,r,rfl,a,b⟩:=h
  obtain⟨u,h1,h2⟩:=Reps.get (i:=i) b (by simpa using e)
  exact⟨u,by simpa using h1,h2⟩
theorem Reps.append:∀{ts us:List T}{vs ws:List V},Reps K H ts vs->Reps K H us ws->Reps K H (ts++us) (vs++ws)
 | [],us,vs,ws,h,q=>by rw[reps_nil]at h;subst h;exact q
 | t::ts,us,vs,ws,h,q=>by
  rw[reps_cons]at h
  obtain⟨v,r,rfl,a,b⟩:=h
  show Reps K H (t::(ts++us)) (v::(r++ws))
  rw[reps_cons]
  exact⟨v,_,rfl,a,Reps.append b q⟩
theorem Reps.one{t:T}{v:V}(h:Rep K H t v):Reps K H [t] [v]:=by
 rw[reps_cons]
 exact⟨v,[],rfl,h,reps_nil.mpr rfl⟩
theorem Reps.cons{t:T}{v:V}{ts:List T}{vs:List V}(h:Rep K H t v)(r:Reps K H ts vs):Reps K H (t::ts) (v::vs):=by
 rw[reps_cons]
 exact⟨v,vs,rfl,h,r⟩
theorem Reps.take:∀{ts:List T}{vs:List V}(n:Nat),Reps K H ts vs->Reps K H (ts.take n) (vs.take n)
 | [],vs,n,h=>by rw[reps_nil]at h;subst h;simp[reps_nil]
 | t::ts,vs,0,h=>by simp[reps_nil]
 | t::ts,vs,n + 1,h=>by
  rw[reps_cons]at h
  obtain⟨v,r,rfl,a,b⟩:=h
  exact Reps.cons a (Reps.take n b)
theorem Reps.drop:∀{ts:List T}{vs:List V}(n:Nat),Reps K H ts vs->Reps K H (ts.drop n) (vs.drop n)
 | ts,vs,0,h=>by simpa using h
 | [],vs,n + 1,h=>by rw[reps_nil]at h;subst h;simp[reps_nil]
 | t::ts,vs,n + 1,h=>by
  rw[reps_cons]at h
  obtain⟨v,r,rfl,a,b⟩:=h
  exact Reps.drop n b
theorem reps_ints(ns:List Int):Reps K H (ns.map T.int) (ns.map V.int):=by
 induction ns with
 | nil=>exact reps_nil.mpr rfl
 | cons n r ih=>exact Reps.cons (rep_int.mpr rfl) ih
end
inductive Slot where
 | no|val (t:T)|own (ts:List T)|see (ts:List T)|dic (ps:List (Int×T))|vat (t:T) (v:V)
def sget:List Slot->Nat->Slot
 | [],_=>.no
 | s::_,0=>s
 | _::r,n + 1=>sget r n
def sput:List Slot->Nat->Slot->List Slot
 | [],_,_=>[]
 | _::r,0,x=>x::r
 | s::r,n + 1,x=>s::sput r n x
theorem length_sput:∀(τ:List Slot)(i:Nat)(x:Slot),(sput τ i x).length=τ.length
 | [],_,_=>rfl
 | _::_,0,_=>rfl
 | _::r,n + 1,x=>by simp[sput,length_sput r n x]
theorem sget_same:∀{τ:List Slot}{i:Nat}{x:Slot},i < τ.length->sget (sput τ i x) i=x
 | [],_,_,h=>by simp at h
 | _::_,0,_,_=>rfl
 | _::r,n + 1,x,h=>by simp only[sput,sget];exact sget_same (by simpa using h)
theorem sget_ne:∀{τ:List Slot}{i j:Nat}{x:Slot},i≠j->sget (sput τ i x) j=sget τ j
 | [],_,_,_,_=>rfl
 | _::_,0,0,_,h=>absurd rfl h
 | _::_,0,_ + 1,_,_=>rfl
 | _::_,_ + 1,0,_,_=>rfl
 | _::r,i + 1,j + 1,x,h=>by simp only[sput,sget];exact sget_ne (by omega)
theorem sget_big:∀{τ:List Slot}{i:Nat},τ.length<=i->sget τ i=.no
 | [],_,_=>rfl
 | _::r,0,h=>by simp at h
 | _::r,i + 1,h=>by simp only[sget];exact sget_big (by simpa using h)
def SlotOk(K:PySem.W.Frag)(H0 H:Hp):Slot->Option (Option V)->Prop
 | .no,_=>True
 | .val t,sv=>∃v,sv=some (some v)/\Rep K H t v
 | .own ts,sv=>∃p vs,sv=some (some (.ref p))/\H p=some (.lst vs)/\Reps K H ts vs/\H0 p=none
 | .see ts,sv=>∃p vs,sv=some (some (.ref p))/\H p=some (.lst vs)/\Reps K H ts vs/\H0 p≠none
 | .dic ps,sv=>∃(p:Addr) (o:Obj) (kvs:List (Int×V)),sv=some (some (.ref p))/\H p=some (.frz o (.dK (kvs.map toK)))/\kvs.map (·.1)=ps.map (·.1)/\Reps K H (ps.map (·.2)) (kvs.map (·.2))
 | .vat t v,sv=>sv=some (some v)/\Rep K H t v
structure RepSt(K:PySem.W.Frag)(H0 H:Hp)(σ:St)(τ:List Slot):Prop where
 same:Same H0 H
 len:τ.length=σ.length
 slot:∀i,SlotOk K H0 H (sget τ i) (σ[i]?)
 apart:∀i j ts us p,i≠j->sget τ i=.own ts->sget τ j=.own us->σ[i]?=some (some (.ref p))->σ[j]?=some (some (.ref p))->False
section
variable {K:PySem.W.Frag} {H0 H H':Hp} {σ:St} {τ:List Slot}
theorem SlotOk.mono{s:Slot}{sv:Option (Option V)}(k:Same H H')(h:SlotOk K H0 H s sv):SlotOk K H0 H' s sv:=by
 cases s with
 | no=>trivial
 | val t=>obtain⟨v,e,r⟩:=h;exact⟨v,e,r.kp (.of k)⟩
 | own ts=>obtain⟨p,vs,e,h1,r,n⟩:=h;exact⟨p,vs,e,k _ _ h1,r.kp (.of k),n⟩
 | see ts=>obtain⟨p,vs,e,h1,r,n⟩:=h;exact⟨p,vs,e,k _ _ h1,r.kp (.of k),n⟩
 | dic ps=>obtain⟨p,o,kvs,e,h1,ek,r⟩:=h;exact⟨p,o,kvs,e,k _ _ h1,ek,r.kp (.of k)⟩
 | vat t v=>exact⟨h.1,h.2.kp (.of k)⟩
theorem RepSt.mono(R:RepSt K H0 H σ τ)(k:Same H H'):RepSt K H0 H' σ τ :=
 ⟨R.same.trans k,R.len,fun i=>(R.slot i).mono k,R.apart⟩
theorem RepSt.put{i:Nat}{t:T}{v:V}(R:RepSt K H0 H σ τ)(r:Rep K H t v):RepSt K H0 H (σ.set i (some v)) (sput τ i (.val t)):=by
 refine⟨R.same,by rw[length_sput,List.length_set];exact R.len,fun j=>?_,fun a b ts us p hab ha hb ea eb=>?_⟩
 ·by_cases hij:i=j
  ·subst hij
   by_cases hi:i < τ.length
   ·rw[sget_same hi]
    exact⟨v,List.getElem?_set_self (by rw[← R.len];exact hi),r⟩
   ·rw[sget_big (by rw[length_sput];omega)]
    trivial
  ·rw[sget_ne hij,List.getElem?_set_ne hij]
   exact R.slot j
 ·have na:i≠a:=by
   rintro rfl
   by_cases hi:i < τ.length
   ·rw[sget_same hi]at ha;cases ha
   ·rw[sget_big (by rw[length_sput];omega)]at ha;cases ha
  have nb:i≠b:=by
   rintro rfl
   by_cases hi:i < τ.length
   ·rw[sget_same hi]at hb;cases hb
   ·rw[sget_big (by rw[length_sput];omega)]at hb;cases hb
  rw[sget_ne na]at ha
  rw[sget_ne nb]at hb
  rw[List.getElem?_set_ne na]at ea
  rw[List.getElem?_set_ne nb]at eb
  exact R.apart a b ts us p hab ha hb ea eb
theorem RepSt.putOwn{i:Nat}{ts:List T}{vs:List V}{p:Addr}(R:RepSt K H0 H σ τ)(hp:H p=none)(r:Reps K H ts vs):RepSt K H0 (upd H p (.lst vs)) (σ.set i (some (.ref p))) (sput τ i (.own ts)):=by
 have S:=same_new hp (.lst vs)
 refine⟨R.same.trans S,by rw[length_sput,List.length_set];exact R.len,fun j=>?_,fun a b ts' us q hab ha hb ea eb=>?_⟩
 ·by_cases hij:i=j
  ·subst hij
   by_cases hi:i < τ.length
   ·rw[sget_same hi]
    exact⟨p,vs,List.getElem?_set_self (by rw[← R.len];exact hi),upd_same,r.kp (.of S),R.same.free hp⟩
   ·rw[sget_big (by rw[length_sput];omega)]
    trivial
  ·rw[sget_ne hij,List.getElem?_set_ne hij]
   exact(R.slot j).mono S
 ·-- an elder own list stands at a tracked place,the new one did not
  have old:∀c ts,i≠c->sget (sput τ i (.own ts')) c=.own ts->σ[c]?≠some (some (.ref p)):=fun c ts hc hcs e=>by
   rw[sget_ne hc]at hcs
   have:=R.slot c
   rw[hcs]at this
   obtain⟨p',vs',e',h1,_⟩:=this
   rw[e]at e'
   cases e'
   rw[hp]at h1
   cases h1
  have isI:∀c,i=c->∀us,sget (sput τ i (.own ts)) c=.own us->(σ.set i (some (.ref p)))[c]?=some (some (.ref p)):=fun c hc us hcs=>by
   subst hc
   by_cases hi:i < τ.length
   ·exact List.getElem?_set_self (by rw[← R.len];exact hi)
   ·rw[sget_big (by rw[length_sput];omega)]at hcs;cases hcs
  by_cases ia:i=a
  ·have z:=isI a ia _ ha
   rw[z]at ea
   cases ea
   have ib:i≠b:=fun e=>hab (ia.symm.trans e)
   rw[List.getElem?_set_ne ib]at eb
   refine old b us ib ?_ eb
   rw[sget_ne ib]at hb ⊢
   exact hb
  ·rw[List.getElem?_set_ne ia]at ea
   by_cases ib:i=b
   ·have z:=isI b ib _ hb
    rw[z]at eb
    cases eb
    refine old a ts' ia ?_ ea
    rw[sget_ne ia]at ha ⊢
    exact ha
   ·rw[List.getElem?_set_ne ib]at eb
    rw[sget_ne ia]at ha
    rw[sget_ne ib]at hb
    exact R.apart a b ts' us q hab ha hb ea eb
theorem RepSt.write{i:Nat}{ts ts2:List T}{vs2:List V}{p:Addr}{xs:List V}(R:RepSt K H0 H σ τ)(hs:sget τ i=.own ts)(hσ:σ[i]?=some (some (.ref p)))(hp:H p=some (.lst xs))(r:Reps K H ts2 vs2) :
  RepSt K H0 (upd H p (.lst vs2)) σ (sput τ i (.own ts2)):=by
 have k:=Kp.write hp (.lst vs2)
 have n0:H0 p=none:=by
  have:=R.slot i
  rw[hs]at this
  obtain⟨p',vs',e',_,_,n⟩:=this
  rw[hσ]at e'
  cases e'
  exact n
 have hi:i < τ.length:=by
  by_cases hi:i < τ.length
  ·exact hi
  ·rw[sget_big (by omega)]at hs;cases hs
 refine⟨fun b o h=>?_,by rw[length_sput];exact R.len,fun j=>?_,fun a b ts' us q hab ha hb ea eb=>?_⟩
 ·have:=R.same b o h
  rw[upd_ne (by rintro rfl;rw[n0]at h;cases h)]
  exact this
 ·by_cases hij:i=j
  ·subst hij
   rw[sget_same hi]
   exact⟨p,vs2,hσ,upd_same,r.kp k,n0⟩
  ·rw[sget_ne hij]
   have sl:=R.slot j
   cases e:sget τ j with
   | no=>trivial
   | val t=>rw[e]at sl;obtain⟨v,e1,r1⟩:=sl;exact⟨v,e1,r1.kp k⟩
   | dic ps=>rw[e]at sl;obtain⟨q,o,kvs,e1,h1,ek,r1⟩:=sl;exact⟨q,o,kvs,e1,k.frz _ _ _ h1,ek,r1.kp k⟩
   | vat t v=>rw[e]at sl;exact⟨sl.1,sl.2.kp k⟩
   | own us =>
    rw[e]at sl
    obtain⟨q,ws,e1,h1,r1,n1⟩:=sl
    have nq:q≠p:=by rintro rfl;exact R.apart i j ts us q hij hs e hσ e1
    exact⟨q,ws,e1,by rw[upd_ne nq];exact h1,r1.kp k,n1⟩
   | see us =>
    rw[e]at sl
    obtain⟨q,ws,e1,h1,r1,n1⟩:=sl
    have nq:q≠p:=by rintro rfl;exact n1 n0
    exact⟨q,ws,e1,by rw[upd_ne nq];exact h1,r1.kp k,n1⟩
 ·have old:∀c us,sget (sput τ i (.own ts2)) c=.own us->∃us',sget τ c=.own us':=fun c us h=>by
   by_cases hc:i=c
   ·subst hc;exact⟨ts,hs⟩
   ·rw[sget_ne hc]at h;exact⟨us,h⟩
  obtain⟨u1,h1⟩:=old a _ ha
  obtain⟨u2,h2⟩:=old b _ hb
  exact R.apart a b u1 u2 q hab h1 h2 ea eb
theorem RepSt.freeze{i:Nat}{ts:List T}{vs:List V}{p:Addr}{o:Obj}(R:RepSt K H0 H σ τ)(hs:sget τ i=.own ts)(hσ:σ[i]?=some (some (.ref p)))(hp:H p=some (.lst vs))(r:Reps K H ts vs) :
  RepSt K H0 (upd H p (.frz o (.lst vs))) σ (sput τ i (.val (.lst ts))):=by
 have k:=Kp.write hp (.frz o (.lst vs))
 have n0:H0 p=none:=by
  have:=R.slot i
  rw[hs]at this
  obtain⟨p',vs',e',_,_,n⟩:=this
  rw[hσ]at e'
  cases e'
  exact n
 have hi:i < τ.length:=by
  by_cases hi:i < τ.length
  ·exact hi
  ·rw[sget_big (by omega)]at hs;cases hs
 refine⟨fun b o' h=>?_,by rw[length_sput];exact R.len,fun j=>?_,fun a b ts' us q hab ha hb ea eb=>?_⟩
 ·have:=R.same b o' h
  rw[upd_ne (by rintro rfl;rw[n0]at h;cases h)]
  exact this
 ·by_cases hij:i=j
  ·subst hij
   rw[sget_same hi]
   exact⟨.ref p,hσ,rep_lst.mpr ⟨p,vs,rfl,.inl ⟨o,upd_same⟩,r.kp k⟩⟩
  ·rw[sget_ne hij]
   have sl:=R.slot j
   cases e:sget τ j with
   | no=>trivial
   | val t=>rw[e]at sl;obtain⟨v,e1,r1⟩:=sl;exact⟨v,e1,r1.kp k⟩
   | dic ps=>rw[e]at sl;obtain⟨q,o,kvs,e1,h1,ek,r1⟩:=sl;exact⟨q,o,kvs,e1,k.frz _ _ _ h1,ek,r1.kp k⟩
   | vat t v=>rw[e]at sl;exact⟨sl.1,sl.2.kp k⟩
   | own us =>
    rw[e]at sl
    obtain⟨q,ws,e1,h1,r1,n1⟩:=sl
    have nq:q≠p:=by rintro rfl;exact R.apart i j ts us q hij hs e hσ e1
    exact⟨q,ws,e1,by rw[upd_ne nq];exact h1,r1.kp k,n1⟩
   | see us =>
    rw[e]at sl
    obtain⟨q,ws,e1,h1,r1,n1⟩:=sl
    have nq:q≠p:=by rintro rfl;exact n1 n0
    exact⟨q,ws,e1,by rw[upd_ne nq];exact h1,r1.kp k,n1⟩
 ·have na:i≠a:=by
   rintro rfl
   rw[sget_same hi]at ha
   cases ha
  have nb:i≠b:=by
   rintro rfl
   rw[sget_same hi]at hb
   cases hb
  rw[sget_ne na]at ha
  rw[sget_ne nb]at hb
  exact R.apart a b ts' us q hab ha hb ea eb
end
abbrev WE:=List Slot->(T->Prop)->Prop
abbrev WT:=List Slot->(Bool->Prop)->Prop
abbrev WA:=List Slot->(List T->Prop)->Prop
structure DT where
 nx:List Slot->Prop
 rt:T->Prop
 bk:List Slot->Prop:=fun _=>False
 ct:List Slot->Prop:=fun _=>False
abbrev WS:=DT->List Slot->Prop
def up(K:PySem.W.Frag)(H0:Hp)(w:WE):TE:=fun σ H Q=>∃(τ:List Slot) (Q0:T->Prop),RepSt K H0 H σ τ/\w τ Q0/\∀t v H',Same H H'->Rep K H' t v->Q0 t->Q v H'
def upT(K:PySem.W.Frag)(H0:Hp)(w:WT):TT:=fun σ H Q=>∃(τ:List Slot) (Q0:Bool->Prop),RepSt K H0 H σ τ/\w τ Q0/\∀b H',Same H H'->Q0 b->Q b H'
def upA(K:PySem.W.Frag)(H0:Hp)(w:WA):TA:=fun σ H Q=>∃(τ:List Slot) (Q0:List T->Prop),RepSt K H0 H σ τ/\w τ Q0/\∀ts vs H',Same H H'->Reps K H' ts vs->Q0 ts->Q vs H'
def upS(K:PySem.W.Frag)(H0:Hp)(w:WS):TS:=fun D σ H=>∃(τ:List Slot) (D0:DT),RepSt K H0 H σ τ/\w D0 τ ∧
 (∀τ' σ' H',Kp H H'->RepSt K H0 H' σ' τ'->D0.nx τ'->D.nx σ' H')/\(∀t v H',Same H0 H'->Rep K H' t v->D0.rt t->D.rt v H') ∧
 (∀τ' σ' H',Kp H H'->RepSt K H0 H' σ' τ'->D0.bk τ'->D.bk σ' H')/\(∀τ' σ' H',Kp H H'->RepSt K H0 H' σ' τ'->D0.ct τ'->D.ct σ' H')
def JE(X:Cx)(e:Expr)(w:WE):Prop:=PE X e (up X.K X.H₀ w)
def JT(X:Cx)(e:Expr)(w:WT):Prop:=PT X e (upT X.K X.H₀ w)
def JA(X:Cx)(es:List Expr)(w:WA):Prop:=PA X es (upA X.K X.H₀ w)
def JS(X:Cx)(st:Stmt)(w:WS):Prop:=PS X st (upS X.K X.H₀ w)
def JSs(X:Cx)(st:List Stmt)(w:WS):Prop:=PSs X st (upS X.K X.H₀ w)
theorem pe_of{X:Cx}{e:Expr}{t t':TE}(h:PE X e t)(f:∀σ H Q,t' σ H Q->t σ H Q):PE X e t':=fun pins s σ H Q I hw=>h pins s σ H Q I (f σ H Q hw)
theorem pt_of{X:Cx}{e:Expr}{t t':TT}(h:PT X e t)(f:∀σ H Q,t' σ H Q->t σ H Q):PT X e t':=fun pins s σ H Q I hw=>h pins s σ H Q I (f σ H Q hw)
theorem pw_of{X:Cx}{e:Expr}{t t':TT}(h:PW X e t)(f:∀σ H Q,t' σ H Q->t σ H Q):PW X e t':=fun wh pins s σ H Q I hw=>h wh pins s σ H Q I (f σ H Q hw)
theorem pa_of{X:Cx}{es:List Expr}{t t':TA}(h:PA X es t)(f:∀σ H Q,t' σ H Q->t σ H Q):PA X es t':=fun pos pins s σ H Q I hw=>h pos pins s σ H Q I (f σ H Q hw)
theorem ps_of{X:Cx}{st:Stmt}{t t':TS}(h:PS X st t)(f:∀D σ H,t' D σ H->t D σ H):PS X st t':=fun pins s σ H D I hw=>h pins s σ H D I (f D σ H hw)
theorem pss_of{X:Cx}{st:List Stmt}{t t':TS}(h:PSs X st t)(f:∀D σ H,t' D σ H->t D σ H):PSs X st t':=fun pins s σ H D I hw=>h pins s σ H D I (f D σ H hw)
end TL
end
section
namespace TL
open PySem PySem.Spec PyProof.Rows L2
section
variable {X:Cx} {a b c e:Expr} {es:List Expr} {wa wb wc w:WE} {pos:Pos}
def wVar(i:Nat):WE:=fun τ Q=>match sget τ i with | .val t=>Q t | .vat t _=>Q t|_=>False
def wC(t:T):WE:=fun _ Q=>Q t
theorem je_of_var{i:Nat}(h:PE X e (tVar i)):JE X e (wVar i):=pe_of h fun σ H Q ⟨τ,Q0,R,hw,k⟩=>by
 have s:=R.slot i
 unfold wVar at hw
 cases z:sget τ i with
 | no=>rw[z]at hw;exact hw.elim
 | own ts=>rw[z]at hw;exact hw.elim
 | see ts=>rw[z]at hw;exact hw.elim
 | dic ts=>rw[z]at hw;exact hw.elim
 | vat t v =>
  rw[z]at hw s
  exact⟨v,s.1,k t v H (.refl H) s.2 hw⟩
 | val t =>
  rw[z]at hw s
  obtain⟨v,ev,r⟩:=s
  exact⟨v,ev,k t v H (.refl H) r hw⟩
theorem jv(i:Nat){x:Str}{pos:Pos}(hN:X.N[i]?=some x:=by rfl)(hv:Vis X.env.scope x:=by first|exact Or.inl rfl|exact Or.inr (Or.inl rfl)|exact Or.inr (Or.inr rfl)) (hd:(x==("__debug__" : Str))=false:=by decide)
  (hcd:(x==("__classdict__" : Str))=false:=by decide):JE X (.Name x pos) (wVar i):=je_of_var (pe_var hN hv hd hcd)
theorem je_const{v:V}{t:T}(h:PE X e (tC v))(r:∀H,Rep X.K H t v):JE X e (wC t):=pe_of h fun σ H Q ⟨τ,Q0,R,hw,k⟩=>k t v H (.refl H) (r H) hw
theorem ji{i j pos}:JE X (.Constant (.int i) j pos) (wC (.int i)):=je_const pe_int fun _=>rep_int.mpr rfl
theorem jb{b j pos}:JE X (.Constant (.bool b) j pos) (wC (.bl b)):=je_const pe_bl fun _=>rep_bl.mpr rfl
theorem jn{j pos}:JE X (.Constant .none j pos) (wC .non):=je_const pe_non fun _=>rep_non.mpr rfl
def w2(r:T->T->(T->Prop)->Prop)(wa wb:WE):WE:=fun τ Q=>wa τ fun x=>wb τ fun y=>r x y Q
def BR(X:Cx)(op:Operator)(rT:T->T->(T->Prop)->Prop):Prop:=∃r:R2,OpR X (binaryOp op) r/\∀t1 t2 v1 v2 H (Q0:T->Prop) (Q:VK),Rep X.K H t1 v1->Rep X.K H t2 v2->rT t1 t2 Q0 →
 (∀t v H',Same H H'->Rep X.K H' t v->Q0 t->Q v H')->r v1 v2 H Q
theorem up2{r:R2}{rT:T->T->(T->Prop)->Prop}{K:PySem.W.Frag}{H0:Hp} (br:∀t1 t2 v1 v2 H (Q0:T->Prop) (Q:VK),Rep K H t1 v1->Rep K H t2 v2->rT t1 t2 Q0 →
  (∀t v H',Same H H'->Rep K H' t v->Q0 t->Q v H')->r v1 v2 H Q) (σ:St) (H:Hp) (Q:VK) (h:up K H0 (w2 rT wa wb) σ H Q):tOp r (up K H0 wa) (up K H0 wb) σ H Q:=by
 obtain⟨τ,Q0,R,hw,k⟩:=h
 exact⟨τ,_,R,hw,fun t1 v1 H1 S1 r1 q1=>⟨τ,_,R.mono S1,q1,fun t2 v2 H2 S2 r2 q2=>br t1 t2 v1 v2 H2 Q0 Q (r1.kp (.of S2)) r2 q2 fun t v H' S3 r q=>k t v H' (S1.trans (S2.trans S3)) r q⟩⟩
theorem jop{op:Operator}{rT:T->T->(T->Prop)->Prop}(h:BR X op rT)(ha:JE X a wa)(hb:JE X b wb):JE X (.BinOp a op b pos) (w2 rT wa wb):=by
 obtain⟨r,ho,br⟩:=h
 exact pe_of (pe_op ho ha hb) (up2 br)
def rAddT(x y:T)(Q:T->Prop):Prop:=match x,y with | .int i,.int j=>Q (.int (i + j))|_,_=>False
def rSubT(x y:T)(Q:T->Prop):Prop:=match x,y with | .int i,.int j=>Q (.int (i - j))|_,_=>False
def Lim(n:Nat)(i:Int):Prop:=i.natAbs < 10 ^ n
def MulOk(i j:Int):Prop:=(∃m n,m<=100000/\n<=100000/\Lim m i/\Lim n j)∨Lim 19 i∨Lim 19 j
def DivOk(j:Int):Prop:=j≠0/\∃n,n<=2200/\Lim n j
def rMulT(x y:T)(Q:T->Prop):Prop:=match x,y with | .int i,.int j=>MulOk i j/\Q (.int (i * j))|_,_=>False
def rDivT(x y:T)(Q:T->Prop):Prop:=match x,y with | .int i,.int j=>DivOk j/\Q (.int (i.fdiv j))|_,_=>False
def rModT(x y:T)(Q:T->Prop):Prop:=match x,y with | .int i,.int j=>j≠0/\Q (.int (i.fmod j))|_,_=>False
def rPowT(x y:T)(Q:T->Prop):Prop:=match x,y with | .int i,.int j=>CPow i j/\Q (.int (i ^ j.toNat))|_,_=>False
theorem br_int{op:Operator}{C:Int->Int->Prop}{g:Int->Int->Int}(h:OpR X (binaryOp op) (rI C fun i j=>.int (g i j))) :
  BR X op (fun x y Q=>match x,y with | .int i,.int j=>C i j/\Q (.int (g i j))|_,_=>False):=by
 refine⟨_,h,fun t1 t2 v1 v2 H Q0 Q r1 r2 q k=>?_⟩
 cases t1<;>cases t2<;>first|exact q.elim|skip
 rename_i i j
 exact⟨i,j,rep_int.mp r1,rep_int.mp r2,q.1,k _ _ H (.refl H) (rep_int.mpr rfl) q.2⟩
theorem br_int0{op:Operator}{g:Int->Int->Int}(h:OpR X (binaryOp op) (rI0 fun i j=>.int (g i j))) :
  BR X op (fun x y Q=>match x,y with | .int i,.int j=>Q (.int (g i j))|_,_=>False):=by
 refine⟨_,h,fun t1 t2 v1 v2 H Q0 Q r1 r2 q k=>?_⟩
 cases t1<;>cases t2<;>first|exact q.elim|skip
 rename_i i j
 exact⟨i,j,rep_int.mp r1,rep_int.mp r2,k _ _ H (.refl H) (rep_int.mpr rfl) q⟩
theorem b_add:BR X .Add rAddT:=br_int0 op_add
theorem b_sub:BR X .Sub rSubT:=br_int0 op_sub
theorem log2_of_lim{n:Nat}{i:Int}(h:Lim n i):i.natAbs.log2 < 4 * n + 1:=by
 by_cases h0:i.natAbs=0
 ·rw[h0];simp
 ·rw[Nat.log2_lt h0]
  have h1:(10:Nat) ^ n<=16 ^ n:=Nat.pow_le_pow_left (by decide) n
  have h2:(16:Nat) ^ n=2 ^ (4 * n):=by rw[show (16:Nat)=2 ^ 4 from rfl,← Nat.pow_mul]
  have h3:(2:Nat) ^ (4 * n + 1)=2 ^ (4 * n) * 2:=Nat.pow_succ ..
  have h4:i.natAbs < 10 ^ n:=h
  have h5:0 < (2:Nat) ^ (4 * n):=Nat.pos_of_ne_zero (by simp)
  omega
theorem bits_of_lim{n:Nat}{i:Int}(h:Lim n i)(hn:n<=100000):Builtin.Int.intBits i<=2 ^ 20:=by
 have:=log2_of_lim h
 have e:(2:Nat) ^ 20=1048576:=by decide
 unfold Builtin.Int.intBits
 split<;>omega
theorem bits_of_19{i:Int}(h:Lim 19 i):Builtin.Int.intBits i<=64:=by
 unfold Lim at h
 have h2:i.natAbs < 2 ^ 64:=Nat.lt_of_lt_of_le h (by decide)
 unfold Builtin.Int.intBits
 split
 ·omega
 ·rename_i z
  have:=(Nat.log2_lt (n:=i.natAbs) (k:=64) (by simpa using z)).mpr h2
  omega
theorem MulOk.ok{i j:Int}(h:MulOk i j):IntMulOk i j:=by
 rcases h with ⟨m,n,hm,hn,a,b⟩|a|b
 ·exact .of_bits (bits_of_lim a hm) (bits_of_lim b hn)
 ·exact .of_left (bits_of_19 a)
 ·exact .of_right (bits_of_19 b)
theorem DivOk.ok{i j:Int}(h:DivOk j):Builtin.divisionGoesByPylong i j=false:=by
 obtain⟨_,n,hn,a⟩:=h
 have:=log2_of_lim a
 exact PyProof.noPylong_of_log2 (by omega)
theorem b_mul:BR X .Mult rMulT:=br_int (C:=MulOk) (opI fun _ _ _ _ _ _ _ hc q=>mul_int q hc.ok)
theorem b_div:BR X .FloorDiv rDivT:=br_int (C:=fun _ j=>DivOk j) (opI fun _ _ _ _ _ _ _ hc q=>floordiv_int hc.1 q (.inl hc.ok))
theorem b_mod:BR X .Mod rModT:=br_int (C:=fun _ j=>j≠0) op_modN
theorem b_pow:BR X .Pow rPowT:=br_int (C:=CPow) op_pow
def wNeg(wa:WE):WE:=fun τ Q=>wa τ fun x=>match x with | .int i=>Q (.int (-i))|_=>False
theorem jneg(ha:JE X a wa):JE X (.UnaryOp .USub a pos) (wNeg wa):=pe_of (pe_un un_neg ha) fun σ H Q ⟨τ,Q0,R,hw,k⟩=>⟨τ,_,R,hw,fun t v H1 S1 r1 q1=>by
 cases t<;>first|exact q1.elim|skip
 rename_i i
 exact⟨i,rep_int.mp r1,k _ _ H1 S1 (rep_int.mpr rfl) q1⟩⟩
def CRT(X:Cx)(op:CmpOp)(cT:T->T->(Bool->Prop)->Prop):Prop:=∃r:R2,OpR X (compareOp op) r/\∀t1 t2 v1 v2 H (Q0:Bool->Prop) (Q:VK),Rep X.K H t1 v1->Rep X.K H t2 v2->cT t1 t2 Q0 →
 (∀b,Q0 b->Q (.bl b) H)->r v1 v2 H Q
def wCmp(cT:T->T->(Bool->Prop)->Prop)(wa wb:WE):WE:=fun τ Q=>wa τ fun x=>wb τ fun y=>cT x y fun b=>Q (.bl b)
def tCmpT(cT:T->T->(Bool->Prop)->Prop)(wa wb:WE):WT:=fun τ Q=>wa τ fun x=>wb τ fun y=>cT x y Q
theorem jcmp{op:CmpOp}{cT:T->T->(Bool->Prop)->Prop}(h:CRT X op cT)(ha:JE X a wa)(hb:JE X b wb)(hm:behindInMarks op b=false):JE X (.Compare a [op] [b] pos) (wCmp cT wa wb):=by
 obtain⟨r,ho,br⟩:=h
 refine pe_of (pe_cmpR ho ha hb hm) fun σ H Q ⟨τ,Q0,R,hw,k⟩=>?_
 exact⟨τ,_,R,hw,fun t1 v1 H1 S1 r1 q1=>⟨τ,_,R.mono S1,q1,fun t2 v2 H2 S2 r2 q2=>br t1 t2 v1 v2 H2 _ Q (r1.kp (.of S2)) r2 q2 fun b q=>k _ _ H2 (S1.trans S2) (rep_bl.mpr rfl) q⟩⟩
theorem tcmp{op:CmpOp}{cT:T->T->(Bool->Prop)->Prop}(h:CRT X op cT)(ha:JE X a wa)(hb:JE X b wb)(hm:behindInMarks op b=false):JT X (.Compare a [op] [b] pos) (tCmpT cT wa wb):=by
 obtain⟨r,ho,br⟩:=h
 refine pt_of (pt_cmpR ho ha hb hm) fun σ H Q ⟨τ,Q0,R,hw,k⟩=>?_
 exact⟨τ,_,R,hw,fun t1 v1 H1 S1 r1 q1=>⟨τ,_,R.mono S1,q1,fun t2 v2 H2 S2 r2 q2=>br t1 t2 v1 v2 H2 _ _ (r1.kp (.of S2)) r2 q2 fun b q=>⟨b,rfl,k _ H2 (S1.trans S2) q⟩⟩⟩
def cLtT(x y:T)(Q:Bool->Prop):Prop:=match x,y with | .int i,.int j=>Q (decide (i < j))|_,_=>False
def cLeT(x y:T)(Q:Bool->Prop):Prop:=match x,y with | .int i,.int j=>Q (decide (i<=j))|_,_=>False
def cGtT(x y:T)(Q:Bool->Prop):Prop:=match x,y with | .int i,.int j=>Q (decide (j < i))|_,_=>False
def cGeT(x y:T)(Q:Bool->Prop):Prop:=match x,y with | .int i,.int j=>Q (decide (j<=i))|_,_=>False
theorem cr_int{op:CmpOp}{g:Int->Int->Bool}(h:OpR X (compareOp op) (rI0 fun i j=>.bl (g i j))) :
  CRT X op (fun x y Q=>match x,y with | .int i,.int j=>Q (g i j)|_,_=>False):=by
 refine⟨_,h,fun t1 t2 v1 v2 H Q0 Q r1 r2 q k=>?_⟩
 cases t1<;>cases t2<;>first|exact q.elim|skip
 rename_i i j
 exact⟨i,j,rep_int.mp r1,rep_int.mp r2,k _ q⟩
theorem c_lt:CRT X .Lt cLtT:=cr_int op_lt
theorem c_gt:CRT X .Gt cGtT:=cr_int op_gt
theorem c_ge:CRT X .GtE cGeT:=cr_int op_ge
mutual
def eqT:T->T->Bool
 | .non,.non=>true
 | .bl a,.bl b=>a==b
 | .bl a,.int b=>decide ((if a then 1 else 0)=b)
 | .int a,.bl b=>decide (a=(if b then 1 else 0))
 | .int a,.int b=>decide (a=b)
 | .str a,.str b=>a==b
 | .tup xs,.tup ys=>eqTs xs ys
 | .lst xs,.lst ys=>eqTs xs ys
 | _,_=>false
def eqTs:List T->List T->Bool
 | [],[]=>true
 | x::xs,y::ys=>eqT x y&&eqTs xs ys
 | _,_=>false
end
theorem eqTb(a b:Bool):eqT (.bl a) (.bl b)=(a==b):=rfl
theorem eqTe(a b:Int):eqT (.int a) (.int b)=decide (a=b):=rfl
theorem eqTf(a b:Str):eqT (.str a) (.str b)=(a==b):=rfl
theorem eqTg(a b:List T):eqT (.tup a) (.tup b)=eqTs a b:=rfl
theorem eqTh(a b:List T):eqT (.lst a) (.lst b)=eqTs a b:=rfl
theorem eqTj(x y:T)(xs ys:List T):eqTs (x::xs) (y::ys)=(eqT x y&&eqTs xs ys):=rfl
mutual
def pd:T->PyData
 | .non=>.none
 | .bl b=>.bool b
 | .int i=>.int i
 | .str x=>.str x
 | .tup ts=>.tuple (pds ts)
 | .lst ts=>.list (pds ts)
 | .dct=>.dict []
 | .exc _=>.dict []
 | .exf _ _ _=>.dict []
 | .dic _ _=>.dict []
def pds:List T->List PyData
 | []=>[]
 | t::ts=>pd t::pds ts
end
mutual
theorem eqT_pd:∀x y:T,PyData.eqv (pd x) (pd y)=eqT x y
 | .tup xs,.tup ys=>by simp only[pd,PyData.eqv,eqTg,eqTh];exact eqTs_pd xs ys
 | .lst xs,.lst ys=>by simp only[pd,PyData.eqv,eqTg,eqTh];exact eqTs_pd xs ys
 | .non,y=>by cases y<;>simp only[pd,PyData.eqv]<;>rfl
 | .bl _,y=>by cases y<;>simp only[pd,PyData.eqv]<;>rfl
 | .int _,y=>by cases y<;>simp only[pd,PyData.eqv]<;>rfl
 | .str _,y=>by cases y<;>simp only[pd,PyData.eqv]<;>rfl
 | .tup _,.non=>by simp only[pd,PyData.eqv]<;>rfl
 | .tup _,.bl _=>by simp only[pd,PyData.eqv]<;>rfl
 | .tup _,.int _=>by simp only[pd,PyData.eqv]<;>rfl
 | .tup _,.str _=>by simp only[pd,PyData.eqv]<;>rfl
 | .tup _,.lst _=>by simp only[pd,PyData.eqv]<;>rfl
 | .tup _,.dct=>by simp only[pd,PyData.eqv]<;>rfl
 | .tup _,.exc _=>by simp only[pd,PyData.eqv]<;>rfl
 | .tup _,.exf _ _ _=>by simp only[pd,PyData.eqv]<;>rfl
 | .tup _,.dic _ _=>by simp only[pd,PyData.eqv]<;>rfl
 | .lst _,.dct=>by simp only[pd,PyData.eqv]<;>rfl
 | .lst _,.exc _=>by simp only[pd,PyData.eqv]<;>rfl
 | .lst _,.exf _ _ _=>by simp only[pd,PyData.eqv]<;>rfl
 | .lst _,.dic _ _=>by simp only[pd,PyData.eqv]<;>rfl
 | .dct,y=>by cases y<;>simp only[pd,PyData.eqv]<;>rfl
 | .exc _,y=>by cases y<;>simp only[pd,PyData.eqv]<;>rfl
 | .exf _ _ _,y=>by cases y<;>simp only[pd,PyData.eqv]<;>rfl
 | .dic _ _,y=>by cases y<;>simp only[pd,PyData.eqv]<;>rfl
 | .lst _,.non=>by simp only[pd,PyData.eqv]<;>rfl
 | .lst _,.bl _=>by simp only[pd,PyData.eqv]<;>rfl
 | .lst _,.int _=>by simp only[pd,PyData.eqv]<;>rfl
 | .lst _,.str _=>by simp only[pd,PyData.eqv]<;>rfl
 | .lst _,.tup _=>by simp only[pd,PyData.eqv]<;>rfl
theorem eqTs_pd:∀xs ys:List T,PyData.eqvAll (pds xs) (pds ys)=eqTs xs ys
 | [],[]=>by simp only[pds,PyData.eqvAll]<;>rfl
 | [],_::_=>by simp only[pds,PyData.eqvAll]<;>rfl
 | _::_,[]=>by simp only[pds,PyData.eqvAll]<;>rfl
 | x::xs,y::ys=>by simp only[pds,PyData.eqvAll,eqTj];rw[eqT_pd x y,eqTs_pd xs ys]
end
def plain(t:T):Bool:=(pd t).canLay0
def dep(t:T):Nat:=(pd t).depth
mutual
theorem reads_of{pins:List (Addr×Obj)}{s:Shared}{σ:St}{H:Hp}(I:Inv X pins σ H s):∀{t:T}{v:V}{u:Value},plain t=true->Rep X.K H t v->RelV v u->∃as,Reads s.heap u (pd t) as
 | .non,v,u,hp,r,q=>by rw[rep_non]at r;subst r;cases q;exact⟨_,.none⟩
 | .bl b,v,u,hp,r,q=>by rw[rep_bl]at r;subst r;cases q;exact⟨_,.bool b⟩
 | .int i,v,u,hp,r,q=>by rw[rep_int]at r;subst r;obtain⟨t,rfl⟩:=q;exact⟨_,.int i t⟩
 | .str x,v,u,hp,r,q=>by rw[rep_str]at r;subst r;obtain⟨t,rfl⟩:=q;exact⟨_,.str x t⟩
 | .tup ts,v,u,hp,r,q=>by
  rw[rep_tup]at r
  obtain⟨p,vs,rfl,sq,rr⟩:=r
  cases q
  obtain⟨its,rv,⟨o,ho,hc,n,hd⟩,_⟩:=I.tuple sq
  obtain⟨as,ra⟩:=readss_of I (show PyData.canLayAll0 (pds ts)=true from by simpa [plain,pd,PyData.canLay0] using hp) rr rv
  exact⟨_,.tuple ho hc hd (by simpa using ra)⟩
 | .lst ts,v,u,hp,r,q=>by
  rw[rep_lst]at r
  obtain⟨p,vs,rfl,sq,rr⟩:=r
  cases q
  obtain⟨its,rv,pl,_⟩:=I.list sq.sq
  obtain⟨o,ho,hc,n,hd⟩:=pl.isList
  obtain⟨as,ra⟩:=readss_of I (show PyData.canLayAll0 (pds ts)=true from by simpa [plain,pd,PyData.canLay0] using hp) rr rv
  exact⟨_,.list ho hc hd (by simpa using ra)⟩
 | .dct,v,u,hp,r,q=>by simp[plain,pd,PyData.canLay0]at hp
 | .exc _,v,u,hp,r,q=>by simp[plain,pd,PyData.canLay0]at hp
 | .exf _ _ _,v,u,hp,r,q=>by simp[plain,pd,PyData.canLay0]at hp
 | .dic _ _,v,u,hp,r,q=>by simp[plain,pd,PyData.canLay0]at hp
theorem readss_of{pins:List (Addr×Obj)}{s:Shared}{σ:St}{H:Hp}(I:Inv X pins σ H s):∀{ts:List T}{vs:List V}{us:List Value},PyData.canLayAll0 (pds ts)=true->Reps X.K H ts vs->Vals vs us->∃as,ReadsAll s.heap us (pds ts) as
 | [],vs,us,hp,r,q=>by rw[reps_nil]at r;subst r;cases q;exact⟨_,.nil⟩
 | t::ts,vs,us,hp,r,q=>by
  have hp':((pd t).canLay0&&PyData.canLayAll0 (pds ts))=true:=hp
  rw[Bool.and_eq_true]at hp'
  rw[reps_cons]at r
  obtain⟨v,vr,rfl,r1,r2⟩:=r
  cases q with
  | cons q1 q2 =>
   obtain⟨as,a1⟩:=reads_of I hp'.1 r1 q1
   obtain⟨bs,a2⟩:=readss_of I hp'.2 r2 q2
   exact⟨_,.cons a1 a2⟩
end
def EqOk(x y:T):Prop:=plain x=true/\plain y=true/\min (dep x) (dep y)<=60
def cEqT(x y:T)(Q:Bool->Prop):Prop:=match x,y with
 | .int i,.int j=>Q (decide (i=j))
 | x,y=>EqOk x y/\Q (eqT x y)
def cNeT(x y:T)(Q:Bool->Prop):Prop:=match x,y with
 | .int i,.int j=>Q (!decide (i=j))
 | x,y=>EqOk x y/\Q (!eqT x y)
theorem ok_ints(i j:Int):EqOk (.int i) (.int j):=by
 refine⟨by simp[plain,pd,PyData.canLay0],by simp[plain,pd,PyData.canLay0],by simp[dep,pd,PyData.depth]⟩
theorem cEqT_gen{x y:T}{Q:Bool->Prop}(h:cEqT x y Q):EqOk x y/\Q (eqT x y):=by
 unfold cEqT at h
 split at h
 ·exact⟨ok_ints _ _,by simpa only [eqTe] using h⟩
 ·exact h
theorem cNeT_gen{x y:T}{Q:Bool->Prop}(h:cNeT x y Q):EqOk x y/\Q (!eqT x y):=by
 unfold cNeT at h
 split at h
 ·exact⟨ok_ints _ _,by simpa only [eqTe] using h⟩
 ·exact h
theorem c_eq{k:Nat}(hr:Room k X.A):CRT X .Eq cEqT:=by
 refine⟨fun x y H Q=>∃t1 t2,Rep X.K H t1 x/\Rep X.K H t2 y/\EqOk t1 t2/\Q (.bl (eqT t1 t2)) H,?_,fun t1 t2 v1 v2 H Q0 Q r1 r2 q k=>?_⟩
 ·intro pins s σ H x y v u Q I rx ry h
  obtain⟨t1,t2,r1,r2,⟨p1,p2,hd⟩,q⟩:=h
  obtain⟨as,a1⟩:=reads_of I p1 r1 rx
  obtain⟨bs,a2⟩:=reads_of I p2 r2 ry
  have hu:=hr.units
  have hd':min (pd t1).depth (pd t2).depth<=60:=hd
  refine SeqAt.compareEq_reads a1 a2 p1 p2 (by omega) ⟨.bl _,H,I,rfl,?_⟩
  rw[eqT_pd]
  exact q
 ·obtain⟨ok,q⟩:=cEqT_gen q
  exact⟨t1,t2,r1,r2,ok,k _ q⟩
theorem c_ne{k:Nat}(hr:Room k X.A):CRT X .NotEq cNeT:=by
 refine⟨fun x y H Q=>∃t1 t2,Rep X.K H t1 x/\Rep X.K H t2 y/\EqOk t1 t2/\Q (.bl (!eqT t1 t2)) H,?_,fun t1 t2 v1 v2 H Q0 Q r1 r2 q k=>?_⟩
 ·intro pins s σ H x y v u Q I rx ry h
  obtain⟨t1,t2,r1,r2,⟨p1,p2,hd⟩,q⟩:=h
  obtain⟨as,a1⟩:=reads_of I p1 r1 rx
  obtain⟨bs,a2⟩:=reads_of I p2 r2 ry
  have hu:=hr.units
  have hd':min (pd t1).depth (pd t2).depth<=60:=hd
  refine SeqAt.compareNe_reads a1 a2 p1 p2 (by omega) ⟨.bl _,H,I,rfl,?_⟩
  rw[eqT_pd]
  exact q
 ·obtain⟨ok,q⟩:=cNeT_gen q
  exact⟨t1,t2,r1,r2,ok,k _ q⟩
def isNonT:T->Bool
 | .non=>true
 | _=>false
def cIsN(x y:T)(Q:Bool->Prop):Prop:=match y with
 | .non=>Q (isNonT x)
 | _=>False
def cNotN(x y:T)(Q:Bool->Prop):Prop:=match y with
 | .non=>Q (!isNonT x)
 | _=>False
def wChain(c1 c2:T->T->(Bool->Prop)->Prop)(wa wb wc:WE):WE:=fun τ Q=>wa τ fun x=>wb τ fun y=>c1 x y fun k=>(k=true->wc τ fun z=>c2 y z fun b=>Q (.bl b))/\(k=false->Q (.bl false))
def tChainT(c1 c2:T->T->(Bool->Prop)->Prop)(wa wb wc:WE):WT:=fun τ Q=>wa τ fun x=>wb τ fun y=>c1 x y fun k=>(k=true->wc τ fun z=>c2 y z Q)/\(k=false->Q false)
def JW(X:Cx)(e:Expr)(w:WT):Prop:=PW X e (upT X.K X.H₀ w)
theorem jw{e:Expr}{w:WT}(h:JW X e w):JT X e w:=PW.pt h
variable {ua ub:WT} {rest:List Expr}
def tAndT(ua ub:WT):WT:=fun τ Q=>ua τ fun k=>(k=true->ub τ Q)/\(k=false->Q false)
def tOrT(ua ub:WT):WT:=fun τ Q=>ua τ fun k=>(k=true->Q true)/\(k=false->ub τ Q)
def tNotT(ua:WT):WT:=fun τ Q=>ua τ fun k=>Q (!k)
def tVal(wa:WE):WT:=fun τ Q=>wa τ fun x=>match x with | .bl k=>Q k|_=>False
theorem tor1(ha:JT X a ua):JW X (.BoolOp .Or [a] pos) ua:=pw_or1 ha
theorem tor(ha:JT X a ua)(hb:JW X (.BoolOp .Or (b::rest) pos) ub):JW X (.BoolOp .Or (a::b::rest) pos) (tOrT ua ub):=pw_of (pw_or ha hb) fun σ H Q ⟨τ,Q0,R,hw,k⟩=>by
 refine⟨τ,_,R,hw,fun c H1 S1 q=>?_⟩
 cases c with
 | true=>rw[if_pos rfl];exact k _ H1 S1 (q.1 rfl)
 | false=>rw[if_neg Bool.false_ne_true];exact⟨τ,_,R.mono S1,q.2 rfl,fun b H2 S2 q=>k b H2 (S1.trans S2) q⟩
theorem tnot(ha:JT X a ua):JT X (.UnaryOp .Not a pos) (tNotT ua):=pt_of (pt_not ha) fun σ H Q ⟨τ,Q0,R,hw,k⟩=>⟨τ,_,R,hw,fun c H1 S1 q=>k _ H1 S1 q⟩
theorem tval(ha:JE X a wa)(he:∀whole,isTrue a X.env whole=(do let v ← whole;standAt a.pos;holding [v] (truthy v)):=by intro _;rfl):JT X a (tVal wa) :=
 pt_of (pt_val ha he) fun σ H Q ⟨τ,Q0,R,hw,k⟩=>⟨τ,_,R,hw,fun t v H1 S1 r q=>by
  cases t<;>first|exact q.elim|skip
  rename_i b
  exact⟨b,rep_bl.mp r,k _ H1 S1 q⟩⟩
def wAndV(wa wb:WE):WE:=fun τ Q=>wa τ fun x=>match x with | .bl k=>(k=true->wb τ Q)/\(k=false->Q (.bl false))|_=>False
def wOrV(wa wb:WE):WE:=fun τ Q=>wa τ fun x=>match x with | .bl k=>(k=true->Q (.bl true))/\(k=false->wb τ Q)|_=>False
def wNotV(wa:WE):WE:=fun τ Q=>wa τ fun x=>match x with | .bl k=>Q (.bl (!k))|_=>False
theorem jone{op}(h:JE X a wa):JE X (.BoolOp op [a] pos) wa:=pe_one h
theorem jand(ha:JE X a wa)(hb:JE X (.BoolOp .And (b::rest) pos) wb):JE X (.BoolOp .And (a::b::rest) pos) (wAndV wa wb):=pe_of (pe_and ha hb) fun σ H Q ⟨τ,Q0,R,hw,k⟩=>by
 refine⟨τ,_,R,hw,fun t v H1 S1 r q=>?_⟩
 cases t<;>first|exact q.elim|skip
 rename_i c
 refine⟨c,rep_bl.mp r,?_⟩
 cases c with
 | true=>rw[if_pos rfl];exact⟨τ,_,R.mono S1,q.1 rfl,fun t v H2 S2 r q=>k t v H2 (S1.trans S2) r q⟩
 | false=>rw[if_neg Bool.false_ne_true];exact k _ _ H1 S1 (rep_bl.mpr rfl) (q.2 rfl)
theorem jnot(ha:JE X a wa):JE X (.UnaryOp .Not a pos) (wNotV wa):=pe_of (pe_not ha) fun σ H Q ⟨τ,Q0,R,hw,k⟩=>⟨τ,_,R,hw,fun t v H1 S1 r q=>by
 cases t<;>first|exact q.elim|skip
 rename_i c
 exact⟨c,rep_bl.mp r,k _ _ H1 S1 (rep_bl.mpr rfl) q⟩⟩
def wIfE(ua:WT)(wa wb:WE):WE:=fun τ Q=>ua τ fun k=>(k=true->wa τ Q)/\(k=false->wb τ Q)
variable {ws:WA}
def aNil:WA:=fun _ Q=>Q []
def aCons(wa:WE)(ws:WA):WA:=fun τ Q=>wa τ fun x=>ws τ fun xs=>Q (x::xs)
theorem ja0:JA X [] aNil:=pa_of pa_nil fun σ H Q ⟨τ,Q0,R,hw,k⟩=>k _ _ H (.refl H) (reps_nil.mpr rfl) hw
theorem ja(ha:JE X e wa)(hr:JA X es ws)(hs:starEach (e::es) X.env=(false,eval e X.env)::starEach es X.env:=by exact star1 rfl):JA X (e::es) (aCons wa ws):=pa_of (pa_cons ha hr hs) fun σ H Q ⟨τ,Q0,R,hw,k⟩ =>
 ⟨τ,_,R,hw,fun t v H1 S1 r1 q1=>⟨τ,_,R.mono S1,q1,fun ts vs H2 S2 r2 q2=>k _ _ H2 (S1.trans S2) (.cons (r1.kp (.of S2)) r2) q2⟩⟩
def wTup(ws:WA):WE:=fun τ Q=>ws τ fun ts=>ts.length<=1000/\Q (.tup ts)
def wLst(ws:WA):WE:=fun τ Q=>ws τ fun ts=>ts.length<=1000/\Q (.lst ts)
theorem few{n:Nat}(h:n<=1000):n<=sizeLine:=Nat.le_of_lt (small1000 h)
theorem jtup{x1}(h:JA X es ws):JE X (.Tuple es x1 pos) (wTup ws):=pe_of (pe_tup h) fun σ H Q ⟨τ,Q0,R,hw,k⟩=>⟨τ,_,R,hw,fun ts vs H1 S1 r ⟨hl,q⟩ =>
 ⟨by rw[r.length];exact few hl,fun p hp=>k _ _ _ (S1.trans (same_new hp _)) (rep_tup.mpr ⟨p,vs,rfl,SqT.of upd_same,r.kp (.of (same_new hp _))⟩) q⟩⟩
def tLstF(t:TA):TE:=fun σ H Q=>t σ H fun xs H1=>xs.length<=sizeLine/\∀p o,H1 p=none->Q (.ref p) (upd H1 p (.frz o (.lst xs)))
theorem pe_lstF{t:TA}(h:PA X es t):PE X (.List es pos) (tLstF t):=by
 intro pins s σ H Q I hq
 refine wpAny_List_spliced (thn (h pos pins s σ H _ I hq) fun us s1 ⟨xs,H1,I1,r,z,q⟩=>⟨by rw[← r.length];exact z,?_⟩)
 have hf:H1 s1.heap.objs.size=none:=I1.hok.fresh (Nat.le_refl _)
 refine⟨.ref s1.heap.objs.size,upd H1 s1.heap.objs.size (.frz {cls:=.type "list", data:=.seq us.toArray} (.lst xs)),I1.laid (t':=s1.toks) (fun b u e=>Heap.get?_push_of_some _ e) (Nat.le_refl _) ?_,rfl,q _ _ hf⟩
 exact⟨Heap.get?_push_size _ rfl,z,us,0,r,Heap.get?_push_size _ rfl⟩
theorem jlst(h:JA X es ws):JE X (.List es pos) (wLst ws):=pe_of (pe_lstF h) fun σ H Q ⟨τ,Q0,R,hw,k⟩=>⟨τ,_,R,hw,fun ts vs H1 S1 r ⟨hl,q⟩ =>
 ⟨by rw[r.length];exact few hl,fun p o hp=>k _ _ _ (S1.trans (same_new hp _)) (rep_lst.mpr ⟨p,vs,rfl,.inl ⟨o,upd_same⟩,r.kp (.of (same_new hp _))⟩) q⟩⟩
def rIxTT(x y:T)(Q:T->Prop):Prop:=match x,y with
 | .tup ts,.int i=>(match atI ts i with|some t=>Q t|none=>False)
 | .lst ts,.int i=>(match atI ts i with|some t=>Q t|none=>False)
 | _,_=>False
theorem atI_reps{K:PySem.W.Frag}{H:Hp}{ts:List T}{vs:List V}{i:Int}{t:T}(r:Reps K H ts vs)(h:atI ts i=some t):∃v,atI vs i=some v/\Rep K H t v:=by
 unfold atI at h ⊢
 rw[r.length]
 cases e:ixN ts.length i with
 | none=>rw[e]at h;cases h
 | some j =>
  rw[e]at h
  exact r.get h
theorem jix(ha:JE X a wa)(hb:JE X b wb)(hs:PlainIx b:=by intro _ _;rfl):JE X (.Subscript a b pos) (w2 rIxTT wa wb):=pe_of (pe_ix ix_seq ha hb hs) (up2 fun t1 t2 v1 v2 H Q0 Q r1 r2 q k=>by
 cases t1<;>cases t2<;>first|exact q.elim|skip
 ·rename_i ts i
  rw[rep_tup]at r1
  obtain⟨p,vs,rfl,sq,rr⟩:=r1
  have q':(match atI ts i with|some t=>Q0 t|none=>False):=q
  cases e:atI ts i with
  | none=>rw[e]at q';exact q'.elim
  | some t =>
   rw[e]at q'
   obtain⟨v,ev,rv⟩:=atI_reps rr e
   exact .inr (.inl ⟨p,vs,i,v,rfl,rep_int.mp r2,sq,ev,k _ _ H (.refl H) rv q'⟩)
 ·rename_i ts i
  rw[rep_lst]at r1
  obtain⟨p,vs,rfl,sq,rr⟩:=r1
  have q':(match atI ts i with|some t=>Q0 t|none=>False):=q
  cases e:atI ts i with
  | none=>rw[e]at q';exact q'.elim
  | some t =>
   rw[e]at q'
   obtain⟨v,ev,rv⟩:=atI_reps rr e
   exact .inl ⟨p,vs,i,v,rfl,rep_int.mp r2,sq.sq,ev,k _ _ H (.refl H) rv q'⟩)
def BlR(X:Cx)(f:Value)(rT:List T->(T->Prop)->Prop):Prop:=∃r:List V->Hp->VK->Prop,CallR X f r/\∀ts vs H (Q0:T->Prop) (Q:VK),Reps X.K H ts vs->rT ts Q0 →
 (∀t v H',Same H H'->Rep X.K H' t v->Q0 t->Q v H')->r vs H Q
def wCB(rT:List T->(T->Prop)->Prop)(ws:WA):WE:=fun τ Q=>ws τ fun ts=>rT ts Q
theorem upCB{r:List V->Hp->VK->Prop}{rT:List T->(T->Prop)->Prop}{K:PySem.W.Frag}{H0:Hp} (br:∀ts vs H (Q0:T->Prop) (Q:VK),Reps K H ts vs->rT ts Q0 →
  (∀t v H',Same H H'->Rep K H' t v->Q0 t->Q v H')->r vs H Q) (σ:St) (H:Hp) (Q:VK) (h:up K H0 (wCB rT ws) σ H Q):tCB r (upA K H0 ws) σ H Q:=by
 obtain⟨τ,Q0,R,hw,k⟩:=h
 exact⟨τ,_,R,hw,fun ts vs H1 S1 r1 q1=>br ts vs H1 Q0 Q r1 q1 fun t v H' S2 r q=>k t v H' (S1.trans S2) r q⟩
theorem jblt{x:Str}{p:Pos}{id:String}{rT:List T->(T->Prop)->Prop}(h:BlR X (.builtin id) rT)(hg:Gl X x)(hm:X.mg x=none)(hv:bootBuiltins x=some (.builtin id))(ha:JA X (e::es) ws) (hn:x ≠ "__name__" := by decide)
  (hdb:(x==("__debug__" : Str))=false:=by decide) (he:starEach (e::es) X.env=(false,eval e X.env)::starEach es X.env:=by exact star1 rfl) (hpl:(backTo pos (starEach es X.env)).any (·.1)=false:=by exact stars rfl) :
  JE X (.Call (.Name x p) (e::es) [] pos) (wCB rT ws):=by
 obtain⟨r,hc,br⟩:=h
 exact pe_of (pe_callB hc hg hm hv ha hn hdb he hpl) (upCB br)
theorem jty{x:Str}{p:Pos}{id:String}{rT:List T->(T->Prop)->Prop}(h:BlR X (.type id) rT)(hg:Gl X x)(hm:X.mg x=none)(hv:bootBuiltins x=some (.type id))(ha:JA X (e::es) ws) (hn:x ≠ "__name__" := by decide)
  (hdb:(x==("__debug__" : Str))=false:=by decide) (he:starEach (e::es) X.env=(false,eval e X.env)::starEach es X.env:=by exact star1 rfl) (hpl:(backTo pos (starEach es X.env)).any (·.1)=false:=by exact stars rfl) :
  JE X (.Call (.Name x p) (e::es) [] pos) (wCB rT ws):=by
 obtain⟨r,hc,br⟩:=h
 exact pe_of (pe_callTy hc hg hm hv ha hn hdb he hpl) (upCB br)
theorem reps1{K:PySem.W.Frag}{H:Hp}{t:T}{vs:List V}(r:Reps K H [t] vs):∃v,vs=[v]/\Rep K H t v:=by
 rw[reps_cons]at r
 obtain⟨v,vr,rfl,r1,r2⟩:=r
 rw[reps_nil]at r2
 subst r2
 exact⟨v,rfl,r1⟩
theorem reps2{K:PySem.W.Frag}{H:Hp}{t t':T}{vs:List V}(r:Reps K H [t,t'] vs):∃v v',vs=[v,v']/\Rep K H t v/\Rep K H t' v':=by
 rw[reps_cons]at r
 obtain⟨v,vr,rfl,r1,r2⟩:=r
 obtain⟨v',rfl,r3⟩:=reps1 r2
 exact⟨v,v',rfl,r1,r3⟩
def rLenT(ts:List T)(Q:T->Prop):Prop:=match ts with
 | [.tup xs]=>Q (.int xs.length)
 | [.lst xs]=>Q (.int xs.length)
 | _=>False
theorem bl_len:BlR X (.builtin "len") rLenT:=by
 refine⟨_,call_len_seq,fun ts vs H Q0 Q r q k=>?_⟩
 unfold rLenT at q
 split at q
 ·obtain⟨v,rfl,r1⟩:=reps1 r
  rw[rep_tup]at r1
  obtain⟨p,ys,rfl,sq,rr⟩:=r1
  exact⟨p,ys,rfl,.inr sq,k _ _ H (.refl H) (rep_int.mpr (by rw[rr.length])) q⟩
 ·obtain⟨v,rfl,r1⟩:=reps1 r
  rw[rep_lst]at r1
  obtain⟨p,ys,rfl,sq,rr⟩:=r1
  exact⟨p,ys,rfl,.inl sq.sq,k _ _ H (.refl H) (rep_int.mpr (by rw[rr.length])) q⟩
 ·exact q.elim
end
end TL
end
section
namespace TL
open PySem PySem.Spec PyProof.Rows L2
section
variable {X:Cx} {a b c e:Expr} {es:List Expr} {wa wb wc w:WE} {ws:WA} {pos:Pos}
def rAbsT(ts:List T)(Q:T->Prop):Prop:=match ts with
 | [.int i]=>Q (.int (if i < 0 then -i else i))
 | _=>False
theorem bl_abs:BlR X (.builtin "abs") rAbsT:=by
 refine⟨_,call_abs,fun ts vs H Q0 Q r q k=>?_⟩
 unfold rAbsT at q
 split at q
 ·obtain⟨v,rfl,r1⟩:=reps1 r
  rename_i i
  exact⟨i,by rw[rep_int.mp r1],k _ _ H (.refl H) (rep_int.mpr rfl) q⟩
 ·exact q.elim
def rMaxT(ts:List T)(Q:T->Prop):Prop:=match ts with
 | [.int i,.int j]=>Q (.int (if j > i then j else i))
 | _=>False
def rMinT(ts:List T)(Q:T->Prop):Prop:=match ts with
 | [.int i,.int j]=>Q (.int (if j < i then j else i))
 | _=>False
def rTupleT(ts:List T)(Q:T->Prop):Prop:=match ts with
 | [.tup xs]=>Q (.tup xs)
 | [.lst xs]=>Q (.tup xs)
 | _=>False
theorem ty_tuple:BlR X (.type "tuple") rTupleT:=by
 refine⟨_,call_tuple_of,fun ts vs H Q0 Q r q k=>?_⟩
 unfold rTupleT at q
 split at q
 ·obtain⟨v,rfl,r1⟩:=reps1 r
  have r':=r1
  rw[rep_tup]at r1
  obtain⟨p,ys,rfl,sq,rr⟩:=r1
  exact⟨p,ys,rfl,.inr ⟨sq,k _ _ H (.refl H) r' q⟩⟩
 ·obtain⟨v,rfl,r1⟩:=reps1 r
  rw[rep_lst]at r1
  obtain⟨p,ys,rfl,sq,rr⟩:=r1
  exact⟨p,ys,rfl,.inl ⟨sq.sq,fun l hl=>k _ _ _ (same_new hl _) (rep_tup.mpr ⟨l,ys,rfl,SqT.of upd_same,rr.kp (.of (same_new hl _))⟩) q⟩⟩
 ·exact q.elim
inductive Kd where
 | int|bool|tuple|list|str
def Kd.nm:Kd->String
 | .int => "int"
 | .bool => "bool"
 | .tuple => "tuple"
 | .list => "list"
 | .str => "str"
def isK:Kd->T->Bool
 | .int,.int _=>true
 | .int,.bl _=>true
 | .bool,.bl _=>true
 | .tuple,.tup _=>true
 | .list,.lst _=>true
 | .str,.str _=>true
 | _,_=>false
def noExc:T->Prop
 | .exc _=>False
 | .exf _ _ _=>False
 | .dic _ _=>False
 | _=>True
theorem call_isi(kd:Kd):CallR X (.builtin "isinstance") (fun xs H Q=>∃x t,xs=[x,.ty kd.nm]/\Rep X.K H t x/\noExc t/\Q (.bl (isK kd t)) H):=by
 intro pins s σ H xs us Q I r h
 obtain⟨x,t,rfl,rt,ne,q⟩:=h
 obtain⟨u,u',rfl,rx,r2⟩:=vals2 r
 obtain rfl:u'=Value.type kd.nm:=r2
 have fin:∀tk,EP X pins σ Q (.bool (isK kd t)) {s with toks:=tk}:=fun tk=>⟨.bl _,H,I.tok tk,rfl,q⟩
 cases t with
 | non=>rw[rep_non]at rt;subst rt;cases rx;exact PySem.W.kia_one PySem.W.kitx_none I.kIn True.intro (by cases kd<;>kernel_rfl) (fun z=>nomatch z) fin
 | bl y=>rw[rep_bl]at rt;subst rt;cases rx;exact PySem.W.kia_one PySem.W.kitx_bool I.kIn True.intro (by cases kd<;>kernel_rfl) (fun z=>nomatch z) fin
 | int i=>rw[rep_int]at rt;subst rt;obtain⟨t,rfl⟩:=rx;exact PySem.W.kia_one PySem.W.kitx_int I.kIn True.intro (by cases kd<;>kernel_rfl) (fun z=>nomatch z) fin
 | str y=>rw[rep_str]at rt;subst rt;obtain⟨t,rfl⟩:=rx;exact PySem.W.kia_one PySem.W.kitx_str I.kIn True.intro (by cases kd<;>kernel_rfl) (fun z=>nomatch z) fin
 | tup ts =>
  rw[rep_tup]at rt
  obtain⟨p,vs,rfl,sq,_⟩:=rt
  cases rx
  obtain⟨its,_,⟨o,h1,h2,_⟩,_⟩:=I.tuple sq
  exact PySem.W.kia_one PySem.W.kitx_tuple I.kIn ⟨o,h1,h2⟩ (by cases kd<;>kernel_rfl) (fun z=>nomatch z) fin
 | lst ts =>
  rw[rep_lst]at rt
  obtain⟨p,vs,rfl,sq,_⟩:=rt
  cases rx
  obtain⟨its,_,pl,_⟩:=I.list sq.sq
  obtain⟨o,h1,h2,_⟩:=pl.isList
  exact PySem.W.kia_one PySem.W.kitx_list I.kIn ⟨o,h1,h2⟩ (by cases kd<;>kernel_rfl) (fun z=>nomatch z) fin
 | dct =>
  rw[rep_dct]at rt
  obtain⟨p,rfl,hp⟩:=rt
  cases rx
  exact PySem.W.kia_one PySem.W.kitx_dict I.kIn ⟨_,(I.hok p _ hp).1,rfl⟩ (by cases kd<;>kernel_rfl) (fun z=>nomatch z) fin
 | exc c=>exact ne.elim
 | exf c f t=>exact ne.elim
 | dic ks ts=>exact ne.elim
def wIsi(kd:Kd)(wa:WE):WE:=fun τ Q=>wa τ fun t=>noExc t/\Q (.bl (isK kd t))
theorem jisi(kd:Kd){p pc:Pos}{x:Str}(ha:JE X e wa) (hg:Gl X "isinstance") (hm:X.mg "isinstance" = none) (hgc:Gl X x) (hmc:X.mg x=none) (hvc:bootBuiltins x=some (.type kd.nm))
  (hn:x ≠ "__name__" := by decide) (hd:(x==("__debug__" : Str))=false:=by decide)
  (hs:starEach [e,.Name x pc] X.env=(false,eval e X.env)::starEach [.Name x pc] X.env:=by exact star1 rfl) (hs1:starEach [.Name x pc] X.env=(false,eval (.Name x pc) X.env)::starEach [] X.env:=by rfl)
  (hpl:(backTo pos (starEach [.Name x pc] X.env)).any (·.1)=false:=by exact stars rfl):JE X (.Call (.Name "isinstance" p) [e,.Name x pc] [] pos) (wIsi kd wa):=by
 refine pe_of (pe_callB (call_isi kd) hg hm boot_isinstance (pa_cons ha (pa_cons (pe_bltn (v:=.ty kd.nm) hgc hmc hvc rfl hn hd) pa_nil hs1) hs) (by decide) (by decide) hs hpl) fun σ H Q ⟨τ,Q0,R,hw,k⟩=>?_
 exact⟨τ,_,R,hw,fun t v H1 S1 r1 q1=>⟨v,t,rfl,r1,q1.1,k _ _ H1 S1 (rep_bl.mpr rfl) q1.2⟩⟩
abbrev SpT:=List T->(T->Prop)->Prop
def spT(K:PySem.W.Frag)(n:Nat)(S:SpT):Sp:=fun vs H Q _=>∃(ts:List T) (Q0:T->Prop),vs.length=n/\Reps K H ts vs/\S ts Q0/\∀t v H',Same H H'->Rep K H' t v->Q0 t->Q v H'
structure FnT(P:Program)(w:World)(K:PySem.W.Frag)(mg:Str->Option Value)(base:Heap)(k:Nat)(f:Addr)(fd:FuncData)(ps:List Str)(S:SpT):Prop where
 ok:FnOk P w K mg base CX0 k f fd ps (spT K ps.length S)
 len:∀ts Q,S ts Q->ts.length=ps.length
def wCall(S:SpT)(ws:WA):WE:=fun τ Q=>ws τ fun ts=>S ts Q
theorem jcall{k:Nat}{f:Addr}{fd:FuncData}{ps:List Str}{S:SpT}{x:Str}{p:Pos}(F:FnT X.prog X.w X.K X.mg X.base k f fd ps S)(hr:Room k X.A)(hg:Gl X x)(hm:X.mg x=some (.ref f))(hk:PySem.W.keepIn X.K (.ref f)=true)
  (hb:Binds X.K fd ps []) (ha:JA X (e::es) ws) (hdb:(x==("__debug__" : Str))=false:=by decide) (he:starEach (e::es) X.env=(false,eval e X.env)::starEach es X.env:=by exact star1 rfl)
  (hpl:(backTo pos (starEach es X.env)).any (·.1)=false:=by exact stars rfl):JE X (.Call (.Name x p) (e::es) [] pos) (wCall S ws):=by
 refine pe_of (pe_call F.ok hr hg hm hk hb .nil pass0 ha hdb he hpl) fun σ H Q ⟨τ,Q0,R,hw,k⟩=>?_
 refine⟨τ,_,R,hw,fun ts vs H1 S1 r1 q1=>?_⟩
 have e0:vs++[]=vs:=List.append_nil vs
 show spT X.K ps.length S (vs++[]) H1 Q E0
 rw[e0]
 exact⟨ts,Q0,by rw[r1.length];exact F.len _ _ q1,r1,q1,fun t v H' S2 r q=>k t v H' (S1.trans S2) r q⟩
def startT(n:Nat)(ts:List T):List Slot:=ts.map Slot.val++List.replicate (n - ts.length) Slot.no
theorem sget_append_left:∀{l r:List Slot}{i:Nat},i < l.length->sget (l++r) i=sget l i
 | [],_,_,h=>by simp at h
 | _::_,_,0,_=>rfl
 | _::l,r,i + 1,h=>by simp only[List.cons_append,sget];exact sget_append_left (by simpa using h)
theorem sget_append_right:∀{l r:List Slot}{i:Nat},l.length<=i->sget (l++r) i=sget r (i - l.length)
 | [],_,_,_=>by simp
 | _::_,_,0,h=>by simp at h
 | _::l,r,i + 1,h=>by
  simp only[List.cons_append,sget,List.length_cons]
  rw[sget_append_right (by simpa using h)]
  congr 1
  omega
theorem sget_no:∀(n i:Nat),sget (List.replicate n Slot.no) i=.no
 | 0,_=>rfl
 | _ + 1,0=>rfl
 | n + 1,i + 1=>by simp only[List.replicate,sget];exact sget_no n i
theorem sget_vals:∀{ts:List T}{i:Nat},i < ts.length->∃t,ts[i]?=some t/\sget (ts.map Slot.val) i=.val t
 | [],_,h=>by simp at h
 | t::_,0,_=>⟨t,rfl,rfl⟩
 | _::r,i + 1,h=>by
  obtain⟨t,h1,h2⟩:=sget_vals (ts:=r) (i:=i) (by simpa using h)
  exact⟨t,by simpa using h1,by simpa [sget] using h2⟩
theorem repSt_start{K:PySem.W.Frag}{H:Hp}{N:List Str}{ts:List T}{vs:List V}(r:Reps K H ts vs):RepSt K H H (L2.start N vs) (startT N.length ts):=by
 have hl:=r.length
 have noOwn:∀i us,sget (startT N.length ts) i ≠ .own us:=fun i us e=>by
  unfold startT at e
  by_cases hi:i < ts.length
  ·rw[sget_append_left (by simpa using hi)]at e
   obtain⟨t,_,h2⟩:=sget_vals hi
   rw[h2]at e
   cases e
  ·rw[sget_append_right (by simpa using hi),sget_no]at e
   cases e
 refine⟨.refl H,by unfold L2.start startT;simp[hl],fun i=>?_,fun i j ts' us p _ h1 _ _ _=>absurd h1 (noOwn i _)⟩
 unfold startT
 by_cases hi:i < ts.length
 ·rw[sget_append_left (by simpa using hi)]
  obtain⟨t,h1,h2⟩:=sget_vals hi
  rw[h2]
  obtain⟨v,e,rv⟩:=r.get h1
  refine⟨v,?_,rv⟩
  unfold L2.start
  rw[List.getElem?_append_left (by simp[hl,hi]),List.getElem?_map,e]
  rfl
 ·rw[sget_append_right (by simpa using hi),sget_no]
  trivial
theorem fnT{P:Program}{w:World}{K:PySem.W.Frag}{mg:Str->Option Value}{base:Heap}{x qual:Str}{st:Stmt}{f:Addr}{fd:FuncData}{N ps:List Str}{k:Nat}{S:SpT}{W:WS}(F:Fun K x qual st f fd)(SC:FnScope N ps (defScope st))
  (hlen:∀ts Q,S ts Q->ts.length=ps.length)
  (hbody:∀(cdv:Value)(A:Around)(outer:List Env)(s:Shared)(H:Hp)(E:XK),Room k (A.deeper (envOfC qual (defScope st) s.heap.objs.size f cdv))->JSs (cxOf CX0 P w K mg base N qual (defScope st) f cdv A outer s H E).nox (defBody st) W)
  (hw:∀ts Q,S ts Q->W {nx:=fun _=>Q .non,rt:=Q} (startT N.length ts)):FnT P w K mg base (k + 1) f fd ps S:=by
 refine⟨F.ok SC (fun vs H Q E h=>?_) (fun cdv A outer s H vs Q E hr h=>?_),hlen⟩
 ·obtain⟨_,_,e,_⟩:=h
  exact e
 obtain⟨ts,Q0,e,r,hS,q⟩:=h
 refine⟨_,hbody cdv A outer s H E hr,startT N.length ts,{nx:=fun _=>Q0 .non,rt:=Q0},repSt_start r,hw ts Q0 hS,fun τ' σ' H' _ R n=>?_,fun t v H' S r' n=>q t v H' S r' n,fun τ' σ' H' _ R n=>n.elim,fun τ' σ' H' _ R n=>n.elim⟩
 exact q .non .non H' R.same (rep_non.mpr rfl) n
variable {st:Stmt} {rest:List Stmt} {t u:WS} {ua:WT}
def sNext:WS:=fun D τ=>D.nx τ
def sSeq(t u:WS):WS:=fun D τ=>t {D with nx:=u D} τ
theorem js0:JSs X [] sNext:=pss_of pss_nil fun D σ H ⟨τ,D0,R,hw,k,_⟩=>k τ σ H (.refl H) R hw
theorem js1(h:JS X st t):JSs X [st] t:=pss_of (pss_one h) fun D σ H z=>z
theorem jsc(h1:JS X st t)(h2:JSs X rest u):JSs X (st::rest) (sSeq t u):=pss_of (pss_cons h1 h2) fun D σ H ⟨τ,D0,R,hw,kn,kr,kb,kc⟩ =>
 ⟨τ,_,R,hw,fun τ' σ' H' K1 R' q=>⟨τ',D0,R',q,fun τ2 σ2 H2 K2 R2 q2=>kn τ2 σ2 H2 (K1.trans K2) R2 q2,kr,fun τ2 σ2 H2 K2 R2 q2=>kb τ2 σ2 H2 (K1.trans K2) R2 q2,fun τ2 σ2 H2 K2 R2 q2=>kc τ2 σ2 H2 (K1.trans K2) R2 q2⟩,
  kr,kb,kc⟩
def sRet(w:WE):WS:=fun D τ=>w τ D.rt
theorem jret(h:JE X e w):JS X (.Return (some e) pos) (sRet w):=ps_of (ps_ret h) fun D σ H ⟨τ,D0,R,hw,_,k,_⟩=>⟨τ,_,R,hw,fun t v H' S r q=>k t v H' (R.same.trans S) r q⟩
def sRetN:WS:=fun D _=>D.rt .non
def sIf(ua:WT)(t u:WS):WS:=fun D τ=>ua τ fun k=>(k=true->t D τ)/\(k=false->u D τ)
theorem jsif{c:Expr}{a b:List Stmt}(hc:JT X c ua)(ha:JSs X a t)(hb:JSs X b u):JS X (.If c a b pos) (sIf ua t u):=ps_of (ps_if hc ha hb) fun D σ H ⟨τ,D0,R,hw,kn,kr,kb,kc⟩=>by
 refine⟨τ,_,R,hw,fun d H1 S1 q=>?_⟩
 have K1:=Kp.of S1
 cases d with
 | true=>dsimp only;rw[if_pos rfl];exact⟨τ,D0,R.mono S1,q.1 rfl,fun τ2 σ2 H2 K2 R2 q2=>kn τ2 σ2 H2 (K1.trans K2) R2 q2,kr,fun τ2 σ2 H2 K2 R2 q2=>kb τ2 σ2 H2 (K1.trans K2) R2 q2,fun τ2 σ2 H2 K2 R2 q2=>kc τ2 σ2 H2 (K1.trans K2) R2 q2⟩
 | false=>dsimp only;rw[if_neg Bool.false_ne_true];exact⟨τ,D0,R.mono S1,q.2 rfl,fun τ2 σ2 H2 K2 R2 q2=>kn τ2 σ2 H2 (K1.trans K2) R2 q2,kr,fun τ2 σ2 H2 K2 R2 q2=>kb τ2 σ2 H2 (K1.trans K2) R2 q2,fun τ2 σ2 H2 K2 R2 q2=>kc τ2 σ2 H2 (K1.trans K2) R2 q2⟩
def sExpr(w:WE):WS:=fun D τ=>w τ fun _=>D.nx τ
def sSet(i:Nat)(w:WE):WS:=fun D τ=>w τ fun t=>D.nx (sput τ i (.val t))
theorem jset{i:Nat}{x:Str}{pos':Pos}(hN:X.N.Nodup)(hi:X.N[i]?=some x)(hx:Loc X.env.scope x)(he:JE X e w)(hs:swapsWith e (some (.Name x pos')) pos.line X.env=pure false:=by rfl)
  (hf:X.fn x=true∨X.env.scope.names.lookup x=some .local:=by first|exact .inl rfl|exact .inr rfl|assumption):JS X (.Assign [.Name x pos'] e pos) (sSet i w) :=
 ps_of (ps_set hN hi hx he hs hf) fun D σ H ⟨τ,D0,R,hw,k,_⟩=>⟨τ,_,R,hw,fun t v H' S r q=>k _ _ H' (.of S) ((R.mono S).put r) q⟩
def sOwn(i:Nat)(ws:WA):WS:=fun D τ=>ws τ fun ts=>ts.length<=1000/\D.nx (sput τ i (.own ts))
theorem jown{i:Nat}{x:Str}{pos' pl:Pos}(hN:X.N.Nodup)(hi:X.N[i]?=some x)(hx:Loc X.env.scope x)(he:JA X es ws)(hs:swapsWith (.List es pl) (some (.Name x pos')) pos.line X.env=pure false:=by rfl)
  (hf:X.fn x=true∨X.env.scope.names.lookup x=some .local:=by first|exact .inl rfl|exact .inr rfl|assumption):JS X (.Assign [.Name x pos'] (.List es pl) pos) (sOwn i ws) :=
 ps_of (ps_set hN hi hx (pe_lst he) hs hf) fun D σ H ⟨τ,D0,R,hw,k,_⟩=>⟨τ,_,R,hw,fun ts vs H' S r ⟨hl,q⟩ =>
  ⟨by rw[r.length];exact few hl,fun p hp=>k _ _ _ ((Kp.of S).trans (.of (same_new hp _))) ((R.mono S).putOwn hp r) q⟩⟩
def sApp(i:Nat)(w:WE):WS:=fun D τ=>match sget τ i with
 | .own ts=>w τ fun t=>ts.length < 1000/\D.nx (sput τ i (.own (ts++[t])))
 | _=>False
theorem japp{i:Nat}{x:Str}{px apos cpos:Pos}(hv:PE X (.Name x px) (tVar i))(he:JE X e w)
  (hs:swapsWith (.Call (.Attribute (.Name x px) "append" apos) [e] [] cpos) none pos.line X.env=pure false:=by rfl)
  (hbase:attributeBase (.Name x px) "append" X.env (eval (.Name x px) X.env)=eval (.Name x px) X.env:=by rfl)
  (hfew:((backTo cpos (starEach [e] X.env)).all (fun x=>!x.1)&&(backToKw cpos (keywordEach [] X.env)).all (fun x=>x.1.isSome)
   && decide ([e].length + ([]:List Keyword).length + (if ([]:List Keyword).isEmpty then 0 else 1) < 30))=true:=by rfl)
  (hline:(apos.endLine==cpos.line)=true:=by rfl) (hst:starEach [e] X.env=(false,eval e X.env)::starEach [] X.env:=by rfl) (hplain:(backTo cpos (starEach [] X.env)).any (·.1)=false:=by rfl) :
  JS X (.Expr (.Call (.Attribute (.Name x px) "append" apos) [e] [] cpos) pos) (sApp i w):=by
 refine ps_of (ps_expr (pe_bm PySem.F.plainAttrs_list PySem.F.slot_list_append PySem.F.type_list_append mt_append hv (pa_cons he pa_nil hst) hbase hfew hline hst hplain) hs) fun D σ H ⟨τ,D0,R,hw,k,_⟩=>?_
 unfold sApp at hw
 cases own:sget τ i with
 | no=>rw[own]at hw;exact hw.elim
 | val t=>rw[own]at hw;exact hw.elim
 | see t=>rw[own]at hw;exact hw.elim
 | dic t=>rw[own]at hw;exact hw.elim
 | vat t v=>rw[own]at hw;exact hw.elim
 | own ts =>
  rw[own]at hw
  have sl:=R.slot i
  rw[own]at sl
  obtain⟨p,vs,ev,hp,rr,n0⟩:=sl
  refine⟨.ref p,ev,.inl ⟨rfl,vs,SqL.of hp⟩,τ,_,R,hw,fun t v H' S r q=>?_⟩
  refine⟨p,vs,v,rfl,rfl,S _ _ hp,by rw[rr.length];exact small1000 (Nat.le_of_lt q.1),?_⟩
  exact k _ _ _ ((Kp.of S).trans (Kp.write (S _ _ hp) _)) ((R.mono S).write own ev (S _ _ hp) ((rr.kp (.of S)).append (.one r))) q.2
def sFrz(i:Nat)(t:WS):WS:=fun D τ=>match sget τ i with
 | .own ts=>t D (sput τ i (.val (.lst ts)))
 | _=>False
theorem Inv.freeze{pins:List (Addr×Obj)}{σ:St}{H:Hp}{s:Shared}{p:Addr}{xs:List V}(I:Inv X pins σ H s)(h:H p=some (.lst xs)):∃o,Inv X pins σ (upd H p (.frz o (.lst xs))) s:=by
 obtain⟨z,its,n,r,e⟩:=I.hok p _ h
 refine⟨{cls:=.type "list", data:=.seq its.toArray n},?_⟩
 have ne:∀{b:Addr}{o:HO},H b=some o->o ≠ .lst xs->b≠p:=fun q d z=>by subst z;rw[h]at q;cases q;exact d rfl
 have nn:∀{b:Addr},H b=none->b≠p:=fun q z=>by subst z;rw[h]at q;cases q
 have u:Un X.fs [] H (upd H p (.frz {cls:=.type "list", data:=.seq its.toArray n} (.lst xs))) s.heap s.heap:=by
  refine⟨fun b o q _ _ _=>q,fun b o q _ _ _=>⟨o.slots,q⟩,fun b o _ q _=>by rw[upd_ne (nn q)];exact q,fun b o q _=>⟨o,q⟩,fun b ys q=>?_,fun b o' u' q=>?_,fun b ps q=>⟨#[],?_⟩⟩
  ·rw[upd_ne (by rintro rfl;rw[h]at q;cases q)];exact q
  ·rw[upd_ne (by rintro rfl;rw[h]at q;cases q)];exact q
  ·rw[upd_ne (by rintro rfl;rw[h]at q;cases q),q];simp
 have hok:HOk X.prog X.w (upd H p (.frz {cls:=.type "list", data:=.seq its.toArray n} (.lst xs))) s.heap:=fun b ob q=>by
  by_cases hb:b=p
  ·subst hb
   rw[upd_same]at q
   cases q
   exact⟨e,z,its,n,r,e⟩
  ·rw[upd_ne hb]at q
   refine(I.hok b ob q).stay (fun c v _ q=>q) (fun c q=>?_) fun c ys q=>?_
   ·rw[upd_ne (by rintro rfl;rw[h]at q;cases q)];exact q
   ·rw[upd_ne (by rintro rfl;rw[h]at q;cases q)];exact q
 have:=I.un (h':=s.heap) (t':=s.toks) u hok
 exact this
theorem jfrz(i:Nat){sts:List Stmt}(h:JSs X sts t):JSs X sts (sFrz i t):=by
 intro pins s σ H D I hw
 obtain⟨τ,D0,R,hw,kn,kr,kb,kc⟩:=hw
 unfold sFrz at hw
 cases own:sget τ i with
 | no=>rw[own]at hw;exact hw.elim
 | val t=>rw[own]at hw;exact hw.elim
 | see t=>rw[own]at hw;exact hw.elim
 | dic t=>rw[own]at hw;exact hw.elim
 | vat t v=>rw[own]at hw;exact hw.elim
 | own ts =>
  rw[own]at hw
  have sl:=R.slot i
  rw[own]at sl
  obtain⟨p,vs,ev,hp,rr,n0⟩:=sl
  obtain⟨o,I'⟩:=Inv.freeze I hp
  have K1:=Kp.write hp (.frz o (.lst vs))
  exact h pins s σ _ D I' ⟨_,D0,R.freeze own ev hp rr,hw,fun τ2 σ2 H2 K2 R2 q2=>kn τ2 σ2 H2 (K1.trans K2) R2 q2,kr,fun τ2 σ2 H2 K2 R2 q2=>kb τ2 σ2 H2 (K1.trans K2) R2 q2,fun τ2 σ2 H2 K2 R2 q2=>kc τ2 σ2 H2 (K1.trans K2) R2 q2⟩
abbrev TGt:=T->List Slot->(List Slot->Prop)->Prop
abbrev TGts:=List T->List Slot->(List Slot->Prop)->Prop
def upG(K:PySem.W.Frag)(H0:Hp)(g:TGt):TG:=fun v σ H Q=>∃(t:T) (τ:List Slot) (Q0:List Slot->Prop),RepSt K H0 H σ τ/\Rep K H t v/\g t τ Q0/\∀τ' σ' H',Same H H'->RepSt K H0 H' σ' τ'->Q0 τ'->Q σ' H'
def upGs(K:PySem.W.Frag)(H0:Hp)(g:TGts):TGs:=fun vs σ H Q=>∃(ts:List T) (τ:List Slot) (Q0:List Slot->Prop),RepSt K H0 H σ τ/\Reps K H ts vs/\g ts τ Q0/\∀τ' σ' H',Same H H'->RepSt K H0 H' σ' τ'->Q0 τ'->Q σ' H'
def JG(X:Cx)(tg:Expr)(g:TGt):Prop:=PG X tg (upG X.K X.H₀ g)
def JGs(X:Cx)(tgs:List Expr)(g:TGts):Prop:=PGs X tgs (upGs X.K X.H₀ g)
theorem pg_of{tg:Expr}{t t':TG}(h:PG X tg t)(f:∀v σ H Q,t' v σ H Q->t v σ H Q):PG X tg t':=fun pins s σ H v u Q I r hw=>h pins s σ H v u Q I r (f v σ H Q hw)
theorem pgs_of{tg:List Expr}{t t':TGs}(h:PGs X tg t)(f:∀v σ H Q,t' v σ H Q->t v σ H Q):PGs X tg t':=fun pins s σ H v u Q I r hw=>h pins s σ H v u Q I r (f v σ H Q hw)
def gN(i:Nat):TGt:=fun t τ Q=>Q (sput τ i (.val t))
theorem jg{i:Nat}{x:Str}(hN:X.N.Nodup)(hi:X.N[i]?=some x)(hx:Loc X.env.scope x)(hf:X.fn x=true∨X.env.scope.names.lookup x=some .local:=by first|exact .inl rfl|exact .inr rfl|assumption):JG X (.Name x pos) (gN i) :=
 pg_of (pg_name hN hi hx hf) fun v σ H Q ⟨t,τ,Q0,R,r,hw,k⟩=>k _ _ H (.refl H) (R.put r) hw
def gs0:TGts:=fun ts τ Q=>match ts with|[]=>Q τ|_=>False
def gsC(g:TGt)(gs:TGts):TGts:=fun ts τ Q=>match ts with|t::r=>g t τ fun τ'=>gs r τ' Q|[]=>False
theorem jgs0:JGs X [] gs0:=pgs_of pgs_nil fun vs σ H Q ⟨ts,τ,Q0,R,r,hw,k⟩=>by
 cases ts with
 | nil=>exact⟨reps_nil.mp r,k τ σ H (.refl H) R hw⟩
 | cons t r=>exact hw.elim
theorem jgsc{e:Expr}{es:List Expr}{g:TGt}{gs:TGts}(h1:JG X e g)(h2:JGs X es gs)(hs:(assignEach (e::es) X.env).map (·.2)=assign e X.env::(assignEach es X.env).map (·.2):=by rfl):JGs X (e::es) (gsC g gs) :=
 pgs_of (pgs_cons h1 h2 hs) fun vs σ H Q ⟨ts,τ,Q0,R,r,hw,k⟩=>by
  cases ts with
  | nil=>exact hw.elim
  | cons t ts =>
   rw[reps_cons]at r
   obtain⟨v,vr,e1,r1,r2⟩:=r
   exact⟨v,vr,e1,t,τ,_,R,r1,hw,fun τ1 σ1 H1 S1 R1 q1=>⟨ts,τ1,Q0,R1,r2.kp (.of S1),q1,fun τ2 σ2 H2 S2 R2 q2=>k τ2 σ2 H2 (S1.trans S2) R2 q2⟩⟩
theorem draw_list{prog:Program}{w:World}{A:Around}{E:Value->Shared->Prop}{it l:Addr}{items:Array Value}(hne:l≠it):∀(n i:Nat)(s:Shared)(Q:List Value->Shared->Prop),s.heap.IsListIter it l i->s.heap.IsList l items->i + n<=items.size →
  (∀h',h'.IsListIter it l (i + n)->Heap.SameBut it s.heap h'->Q ((items.toList.drop i).take n) {s with heap:=h' })->wpAny (model prog w) A (draw (.ref it) n) Q E s
 | 0,i,s,Q,hit,_,_,hQ=>by
  show wpAny _ _ (pure []) Q E s
  exact wpAny_pure (by simpa using hQ s.heap hit (Heap.SameBut.refl ..))
 | n + 1,i,s,Q,hit,ht,hle,hQ=>by
  have hlt:i < items.size:=by omega
  show wpAny _ _ (pyNext (.ref it) >>= _) Q E s
  refine wpAny_bind (wpAny_pyNext_list_item hit ht (x:=items[i]) (by simp[hlt]) fun h₁ hit₁ hs₁=>?_)
  refine wpAny_bind (wpAny_holding (draw_list hne n (i + 1) _ _ hit₁ (ht.extBut hs₁.extBut hne) (by omega) fun h₂ hit₂ hs₂=>wpAny_pure ?_))
  have hd:items.toList.drop i=items[i]::items.toList.drop (i + 1):=by simp[List.drop_eq_getElem_cons,hlt]
  have:=hQ h₂ (by rw[show i + (n + 1)=i + 1 + n by omega];exact hit₂) (hs₁.trans hs₂)
  rw[hd,List.take_succ_cons]at this
  exact this
theorem unpackItems_list{prog:Program}{w:World}{A:Around}{E:Value->Shared->Prop}{s:Shared}{t:Addr}{items:Array Value}{Q:List Value->Shared->Prop}(hh:A.handled=none)(ht:s.heap.IsList t items)
  (hQ:∀h',Heap.ExtBut s.heap.objs.size s.heap h'->Q items.toList {s with heap:=h' }):wpAny (model prog w) A (unpackItems (.ref t) items.size none) Q E s:=by
 have hlt:t≠s.heap.objs.size:=by obtain⟨o,ho,_⟩:=ht;exact Nat.ne_of_lt (Heap.lt_size ho)
 unfold unpackItems
 refine wpAny_bind ?_
 ·unfold notIterableAtAll
  refine wpAny_bind (wpAny_specialOf ht.typeIs slot_list_iter.lookup ?_)
  refine wpAny_pure ?_
  simp only[Bool.false_eq_true,if_false]
  refine wpAny_bind (wpAny_holding (wpAny_pyIter_list ht ?_))
  have htp:(s.heap.push {cls:=.type "list_iterator", data:=.fields #[.ref t,.int 0 0]}).IsList t items:=by
   obtain⟨o,ho,r⟩:=ht
   exact⟨o,Heap.get?_push_of_some _ ho,r⟩
  refine wpAny_bind (wpAny_holding (draw_list hlt items.size 0 _ _ ⟨_,Heap.get?_push_size _ rfl,rfl,rfl⟩ htp (by omega) fun h₁ hit₁ hs₁=>?_))
  have hall:List.take items.size (List.drop 0 items.toList)=items.toList:=by
   rw[List.drop_zero];exact List.take_of_length_le (by simp)
  rw[hall]
  rw[if_neg (by simp)]
  have ht₁:h₁.IsList t items:=htp.extBut hs₁.extBut hlt
  refine wpAny_bind (wpAny_holding (wpAny_pyNext_list_end hh hit₁ ht₁ (by simp) fun h₂ he₂=>?_))
  simp only[Option.isSome_none,Bool.false_eq_true,if_false]
  refine wpAny_pure (hQ h₂ fun b o hb e=>he₂ b o hb (hs₁.extBut b o hb (Heap.get?_push_of_some _ e)))
theorem assign_Tuple_list{prog:Program}{w:World}{A:Around}{E:Value->Shared->Prop}{s:Shared}{env:Env}{elts:List Expr}{x1}{pos:Pos}{t:Addr}{items:Array Value}{Q:Unit->Shared->Prop}(hh:A.handled=none)(ht:s.heap.IsList t items)
  (hn:(assignEach elts env).length=items.size) (hstar:(assignEach elts env).findIdx? (·.1)=none)
  (h:∀h',Heap.ExtBut s.heap.objs.size s.heap h'->wpAny (model prog w) A (assignInOrder ((assignEach elts env).map (·.2)) items.toList) Q E {s with heap:=h' }) :
  wpAny (model prog w) A (assign (.Tuple elts x1 pos) env (.ref t)) Q E s:=by
 rw[assign_Tuple]
 refine wpAny_bind (wpAny_standAt ?_)
 unfold unpack
 rw[hn,hstar]
 exact wpAny_bind (wpAny_holding (unpackItems_list hh ht h))
def gT(n:Nat)(gs:TGts):TGt:=fun t τ Q=>match t with
 | .tup ts=>ts.length=n/\gs ts τ Q
 | .lst ts=>ts.length=n/\gs ts τ Q
 | _=>False
theorem jgt{es:List Expr}{k:Nat}{gs:TGts}{n:Nat}(hc:X.calm=true)(h:JGs X es gs)(hn:(assignEach es X.env).length=n:=by rfl)(hst:(assignEach es X.env).findIdx? (·.1)=none:=by rfl):JG X (.Tuple es k pos) (gT n gs):=by
 intro pins s σ H v u Q I r hw
 obtain⟨t,τ,Q0,R,rt,hw,kk⟩:=hw
 cases t<;>first|exact hw.elim|skip
 ·rename_i ts
  rw[rep_tup]at rt
  obtain⟨p,vs,rfl,sq,rr⟩:=rt
  cases r
  obtain⟨its,rv,ht,hz⟩:=I.tuple sq
  refine assign_Tuple_tuple (I.ok.hd hc) ht (by simp[hn,← hw.1,← rr.length,rv.length]) hst fun h' hx=>?_
  have I1:Inv X pins σ H {s with heap:=h' }:=I.kept (t':=s.toks) fun b o e=>hx b o (Nat.ne_of_lt (Heap.lt_size e)) e
  exact h pins _ σ H vs _ Q I1 (by simpa using rv) ⟨ts,τ,Q0,R,rr,hw.2,kk⟩
 ·rename_i ts
  rw[rep_lst]at rt
  obtain⟨p,vs,rfl,sq,rr⟩:=rt
  cases r
  obtain⟨its,rv,ht,hz⟩:=I.list sq.sq
  refine assign_Tuple_list (I.ok.hd hc) ht.isList (by simp[hn,← hw.1,← rr.length,rv.length]) hst fun h' hx=>?_
  have I1:Inv X pins σ H {s with heap:=h' }:=I.kept (t':=s.toks) fun b o e=>hx b o (Nat.ne_of_lt (Heap.lt_size e)) e
  exact h pins _ σ H vs _ Q I1 (by simpa using rv) ⟨ts,τ,Q0,R,rr,hw.2,kk⟩
def sAsg(g:TGt)(w:WE):WS:=fun D τ=>w τ fun t=>g t τ D.nx
def sPar(i j:Nat)(ws:WA):WS:=fun D τ=>ws τ fun ts=>match ts with|[x,y]=>D.nx (sput (sput τ i (.val x)) j (.val y))|_=>False
theorem jpar{i j:Nat}{x y:Str}{px py pt:Pos}{kt k2 pt2}(hc:X.calm=true)(hN:X.N.Nodup)(hi:X.N[i]?=some x)(hj:X.N[j]?=some y)(hij:i≠j)
  (hx:X.env.scope.names.lookup x=some .local) (hy:X.env.scope.names.lookup y=some .local) (ha:JA X [a,b] ws)
  (hw:swappedStores [.Tuple [.Name x px,.Name y py] kt pt] (.Tuple [a,b] k2 pt2) X.env=pure (some [x,y]))
  (hs:swapsWithSole [.Tuple [.Name x px,.Name y py] kt pt] (.Tuple [a,b] k2 pt2) pos.line X.env=pure false:=by rfl) :
  JS X (.Assign [.Tuple [.Name x px,.Name y py] kt pt] (.Tuple [a,b] k2 pt2) pos) (sPar i j ws) :=
 ps_of (ps_par hc hN hi hj hij hx hy ha hw hs) fun D σ H ⟨τ,D0,R,hw,k,_⟩=>⟨τ,_,R,hw,fun ts vs H' S r q=>by
  unfold sPar at hw
  match ts,r,q with
  | [x,y],r,q =>
   obtain⟨v,v',rfl,r1,r2⟩:=reps2 r
   exact⟨v,v',rfl,k _ _ H' (.of S) (((R.mono S).put r1).put r2) q⟩
  | [],_,q=>exact q.elim
  | [_],_,q=>exact q.elim
  | _::_::_::_,_,q=>exact q.elim⟩
def sWhile(ua:WT)(t:WS):WS:=fun D τ=>∃I:Nat->List Slot->Prop,(∃m,I m τ)/\∀m τ,I m τ->ua τ fun k =>
 (k=true->t {D with nx:=fun τ'=>∃m',m' < m/\I m' τ',ct:=fun τ'=>∃m',m' < m/\I m' τ',bk:=D.nx} τ)/\(k=false->D.nx τ)
theorem jwhile{c:Expr}{body:List Stmt}(hp:PassesOwn (model X.prog X.w) X.A X.env X.xe)(hc:JT X c ua)(hb:JSs X body t):JS X (.While c body [] pos) (sWhile ua t) :=
 ps_of (ps_while hp hc hb) fun D σ H ⟨τ,D0,R,⟨I,⟨m0,h0⟩,turn⟩,kn,kr,kb,kc⟩=>by
  refine⟨fun m σ' H'=>∃τ',RepSt X.K X.H₀ H' σ' τ'/\Kp H H'/\I m τ',⟨m0,τ,R,.refl H,h0⟩,fun m σ1 H1 ⟨τ1,R1,K1,i1⟩=>?_⟩
  refine⟨τ1,_,R1,turn m τ1 i1,fun k H2 S2 q=>?_⟩
  cases k with
  | true =>
   rw[if_pos rfl]
   have K2:=K1.trans (.of S2)
   have nx:∀τ' σ' H',Kp H2 H'->RepSt X.K X.H₀ H' σ' τ'->(∃m',m' < m/\I m' τ')->∃m',m' < m/\∃τ',RepSt X.K X.H₀ H' σ' τ'/\Kp H H'/\I m' τ':=fun τ' σ' H' K3 R3 ⟨m',lt,i3⟩=>⟨m',lt,τ',R3,K2.trans K3,i3⟩
   exact⟨fun σ' H'=>∃m',m' < m/\∃τ',RepSt X.K X.H₀ H' σ' τ'/\Kp H H'/\I m' τ',fun σ' H' z=>z,τ1,_,R1.mono S2,q.1 rfl,nx,kr,fun τ' σ' H' K3 R3 q3=>kn τ' σ' H' (K2.trans K3) R3 q3,nx⟩
  | false =>
   rw[if_neg Bool.false_ne_true]
   exact kn τ1 σ1 H2 (K1.trans (.of S2)) (R1.mono S2) (q.2 rfl)
abbrev WI:=List Slot->(List T->Prop)->Prop
def Wk(K:PySem.W.Frag)(J:It)(ts:List T)(H1:Hp):Prop:=∀H2,Kp H1 H2->(∀i t,ts[i]?=some t->J.go i H2/\∀x H3,J.yld i H2 x H3->Same H2 H3/\Rep K H3 t x)/\J.stop ts.length H2
def upI(K:PySem.W.Frag)(H0:Hp)(w:WI):TI:=fun σ H R=>∃(τ:List Slot) (Q0:List T->Prop),RepSt K H0 H σ τ/\w τ Q0/\∀ts J H',Same H H'->Wk K J ts H'->Q0 ts->R J H'
def JI(X:Cx)(tg iter:Expr)(w:WI):Prop:=PI X tg iter (upI X.K X.H₀ w)
theorem pi_of{tg iter:Expr}{t t':TI}(h:PI X tg iter t)(f:∀σ H R,t' σ H R->t σ H R):PI X tg iter t':=fun pins s σ H R I hw=>h pins s σ H R I (f σ H R hw)
def forT(g:TGt)(t:WS):List T->WS
 | [],D,τ=>D.nx τ
 | x::xs,D,τ=>g x τ fun τ1=>t {D with nx:=forT g t xs D,ct:=forT g t xs D,bk:=D.nx} τ1
def sFor(wi:WI)(g:TGt)(t:WS):WS:=fun D τ=>wi τ fun ts=>forT g t ts D τ
theorem jfor{tg iter:Expr}{body:List Stmt}{wi:WI}{g:TGt}(hp:PassesOwn (model X.prog X.w) X.A X.env X.xe)(hc:X.calm=true)(hi:JI X tg iter wi)(hg:JG X tg g)(hb:JSs X body t)
  (hs:∀x,foldedSetIterable iter X.env x=pure x:=by intro _;rfl):JS X (.For tg iter body [] pos) (sFor wi g t) :=
 ps_of (ps_for hp hc hi hg hb hs) fun D σ H ⟨τ,D0,R,hw,kn,kr,kb,kc⟩=>by
  refine⟨τ,_,R,hw,fun ts J H1 S1 wk q=>?_⟩
  have K0:=Kp.of S1
  refine⟨fun i m σ' H'=>m=ts.length - i/\i<=ts.length/\∃τ',RepSt X.K X.H₀ H' σ' τ'/\Kp H1 H'/\forT g t (ts.drop i) D0 τ',⟨ts.length,by simp,Nat.zero_le _,τ,R.mono S1,.refl H1,by simpa using q⟩,?_⟩
  rintro i m σ2 H2 ⟨rfl,hi,τ2,R2,K2,q2⟩
  obtain⟨wi,ws⟩:=wk H2 K2
  by_cases hlt:i < ts.length
  ·refine .inr ?_
   have ei:ts[i]?=some ts[i]:=List.getElem?_eq_getElem hlt
   obtain⟨go,yl⟩:=wi i _ ei
   rw[List.drop_eq_getElem_cons hlt]at q2
   refine⟨go,fun σ' H'=>∃τ',RepSt X.K X.H₀ H' σ' τ'/\Kp H1 H'/\forT g t (ts.drop (i + 1)) D0 τ',fun σ' H' ⟨τ',R',K',q'⟩=>⟨ts.length - (i + 1),by omega,rfl,hlt,τ',R',K',q'⟩,fun x H3 y=>?_⟩
   obtain⟨S3,r3⟩:=yl x H3 y
   refine⟨ts[i],τ2,_,R2.mono S3,r3,q2,fun τ4 σ4 H4 S4 R4 q4=>?_⟩
   have K4:=K2.trans (.of (S3.trans S4))
   have nx:∀τ' σ' H',Kp H4 H'->RepSt X.K X.H₀ H' σ' τ'->forT g t (ts.drop (i + 1)) D0 τ'->∃τ',RepSt X.K X.H₀ H' σ' τ'/\Kp H1 H'/\forT g t (ts.drop (i + 1)) D0 τ':=fun τ' σ' H' K5 R5 q5=>⟨τ',R5,K4.trans K5,q5⟩
   exact⟨τ4,_,R4,q4,nx,kr,fun τ' σ' H' K5 R5 q5=>kn τ' σ' H' (K0.trans (K4.trans K5)) R5 q5,nx⟩
  ·have e:i=ts.length:=by omega
   subst e
   rw[List.drop_length]at q2
   exact .inl ⟨ws,kn τ2 σ2 H2 (K0.trans K2) R2 q2⟩
def iSeq(w:WE):WI:=fun τ Q=>w τ fun t=>match t with
 | .tup ts=>Q ts
 | .lst ts=>Q ts
 | _=>False
theorem jiSeq{tg l:Expr}(h:JE X l w):JI X tg l (iSeq w):=by
 intro pins s σ H R I hw
 obtain⟨τ,Q0,Rs,hw,k⟩:=hw
 refine thn (h pins s σ H (fun v H1=>∃t,Same H H1/\Rep X.K H1 t v/\(match t with | .tup ts=>Q0 ts | .lst ts=>Q0 ts|_=>False)) I ⟨τ,_,Rs,hw,fun t v H1 S r q=>⟨t,S,r,q⟩⟩) fun v s1 ⟨x,H1,I1,r1,t,S1,rt,q1⟩=>?_
 cases t<;>first|exact q1.elim|skip
 ·rename_i ts
  rw[rep_tup]at rt
  obtain⟨a,vs,rfl,hq,rr⟩:=rt
  cases r1
  obtain⟨its,rv,p,hz⟩:=I1.tuple hq
  refine wpAny_pyIter_tuple (show s1.heap.IsTuple a its.toArray from p) ?_
  refine⟨s1.heap.objs.size,[s1.heap.objs.size],_,_,H1,rfl,I1.kept (t':=s1.toks) fun b o e=>Heap.get?_push_of_some _ e,turn_tuple a _,⟨_,Heap.get?_push_size _ rfl,rfl,rfl⟩,fun b hb=>?_,k ts (Itt X.K a) H1 S1 ?_ q1⟩
  ·have e:b=s1.heap.objs.size:=by simpa using hb
   subst e
   exact I1.fpOk (Nat.le_refl _) (I1.hok.fresh (Nat.le_refl _))
  ·intro H2 K2
   have sq2:=sqT_kp K2 hq
   refine⟨fun i t ei=>?_,⟨vs,sq2,by rw[rr.length];exact Nat.le_refl _⟩⟩
   obtain⟨v,ev,rv⟩:=rr.get ei
   refine⟨⟨vs,v,sq2,ev⟩,fun x H3 y=>?_⟩
   obtain⟨rfl,y⟩:=y
   have z:=y vs sq2
   rw[ev]at z
   cases z
   exact⟨.refl _,rv.kp K2⟩
 ·rename_i ts
  rw[rep_lst]at rt
  obtain⟨a,vs,rfl,hq,rr⟩:=rt
  cases r1
  obtain⟨its,rv,p,hz⟩:=I1.list hq.sq
  refine wpAny_pyIter_list p.isList ?_
  refine⟨s1.heap.objs.size,[s1.heap.objs.size],_,_,H1,rfl,I1.kept (t':=s1.toks) fun b o e=>Heap.get?_push_of_some _ e,turn_list a _,⟨_,Heap.get?_push_size _ rfl,rfl,rfl⟩,fun b hb=>?_,k ts (Itl X.K a) H1 S1 ?_ q1⟩
  ·have e:b=s1.heap.objs.size:=by simpa using hb
   subst e
   exact I1.fpOk (Nat.le_refl _) (I1.hok.fresh (Nat.le_refl _))
  ·intro H2 K2
   have sq2:=(sqF_kp K2 hq).sq
   refine⟨fun i t ei=>?_,⟨vs,sq2,by rw[rr.length];exact Nat.le_refl _⟩⟩
   obtain⟨v,ev,rv⟩:=rr.get ei
   refine⟨⟨vs,v,sq2,ev⟩,fun x H3 y=>?_⟩
   obtain⟨rfl,y⟩:=y
   have z:=y vs sq2
   rw[ev]at z
   cases z
   exact⟨.refl _,rv.kp K2⟩
def rangeT:Int->Nat->List T
 | _,0=>[]
 | lo,n + 1=>.int lo::rangeT (lo + 1) n
theorem rangeT_length:∀(lo:Int)(n:Nat),(rangeT lo n).length=n
 | _,0=>rfl
 | lo,n + 1=>by simp[rangeT,rangeT_length (lo + 1) n]
theorem rangeT_get:∀(lo:Int)(n i:Nat),i < n->(rangeT lo n)[i]?=some (.int (lo + i))
 | _,0,_,h=>by omega
 | lo,n + 1,0,_=>by simp[rangeT]
 | lo,n + 1,i + 1,h=>by
  simp only[rangeT,List.getElem?_cons_succ]
  rw[rangeT_get (lo + 1) n i (by omega)]
  congr 2
  push_cast
  omega
theorem wk_range{K:PySem.W.Frag}{H:Hp}(lo:Int)(n:Nat):Wk K (Itr lo n) (rangeT lo n) H:=by
 intro H2 _
 refine⟨fun i t ei=>?_,by show n<=_;rw[rangeT_length];exact Nat.le_refl _⟩
 have hi:i < n:=by
  have:=(List.getElem?_eq_some_iff.mp ei).1
  rwa [rangeT_length]at this
 rw[rangeT_get lo n i hi]at ei
 cases ei
 refine⟨hi,fun x H3 y=>?_⟩
 obtain⟨rfl,rfl⟩:=y
 exact⟨.refl _,rep_int.mpr rfl⟩
def iRange1(ws:WA):WI:=fun τ Q=>ws τ fun ts=>match ts with
 | [.int j]=>(-(2 ^ 62)<=j/\j < 2 ^ 62)/\Q (rangeT 0 j.toNat)
 | _=>False
theorem one_int{P:Int->Prop}{ts:List T}(h:match ts with|[.int j]=>P j|_=>False):∃j,ts=[.int j]/\P j:=by
 split at h
 ·exact⟨_,rfl,h⟩
 ·exact h.elim
theorem jiRange1{tg:Expr}{p:Pos} (hg:Gl X "range") (hm:X.mg "range" = none) (ha:JA X [a] ws) (hs:starEach [a] X.env=[(false,eval a X.env)]:=by rfl):JI X tg (.Call (.Name "range" p) [a] [] pos) (iRange1 ws) :=
 pi_of (pi_range1 hg hm ha hs) fun σ H R ⟨τ,Q0,Rs,hw,k⟩=>⟨τ,_,Rs,hw,fun ts vs H1 S1 r q=>by
   obtain⟨j,e0,q⟩:=one_int (P:=fun j=>(-(2 ^ 62)<=j/\j < 2 ^ 62)/\Q0 (rangeT 0 j.toNat)) q
   subst e0
   obtain⟨v,rfl,r1⟩:=reps1 r
   exact⟨j,by rw[rep_int.mp r1],q.1.1,q.1.2,k _ _ H1 S1 (wk_range 0 j.toNat) q.2⟩⟩
def iRange2(ws:WA):WI:=fun τ Q=>ws τ fun ts=>match ts with
 | [.int i,.int j]=>(-(2 ^ 62)<=i/\i < 2 ^ 62 /\ -(2 ^ 62)<=j/\j < 2 ^ 62)/\Q (rangeT i (j - i).toNat)
 | _=>False
end
end TL
end
section
namespace TL
open PySem PySem.Spec PyProof.Rows L2
section
variable {X:Cx} {pins:List (Addr×Obj)} {σ:St} {H:Hp} {s:Shared} {h':Heap}
theorem Inv.turnedT{t':Nat}{ch:List Addr}{p:Addr}{xs:List V}{us:List Value}(I:Inv X pins σ H s)(k:∀b o,b∉ch->s.heap.get? b=some o->h'.get? b=some o)(kt:∀b∈ch,∃o,h'.get? b=some o)
  (hch:∀b∈ch,FpOk X pins H b) (hp:s.heap.objs.size<=p) (hz:xs.length<=sizeLine) (r:Vals xs us) (ht:IsTup h' p us.toArray):Inv X pins σ (upd H p (.tup xs)) {s with heap:=h',toks:=t' }:=by
 have hpn:H p=none:=I.hok.fresh hp
 have nch:∀b u,H b=some u->b∉ch:=fun b u e z=>by rw[(hch b z).1]at e;cases e
 have nep:∀b u,H b=some u->b≠p:=fun b u e z=>by subst z;rw[hpn]at e;cases e
 have nlt:∀b o,s.heap.get? b=some o->b≠p:=fun b o e=>Nat.ne_of_lt (Nat.lt_of_lt_of_le (Heap.lt_size e) hp)
 refine I.step (g':=s.gens) (d':=s.drawn) (ch:=ch) (fun b hb=>?_) (fun b o _ _ hc e _=>k b o hc e) (fun b o _ _ hc e _=>⟨o.slots,k b o hc e⟩) (fun b o _ e n=>by rw[upd_ne (nlt b o e)];exact n)
  (fun b o hc e=>⟨o,k b o hc e⟩) (fun b ys e=>by rw[upd_ne (nep b _ e)];exact e) (fun b o u e=>by rw[upd_ne (nep b _ e)];exact e) (fun b ps e=>⟨#[],by rw[upd_ne (nep b _ e),e];simp⟩) (fun m hm=>?_) (fun b u e=>?_) I.bare
 ·obtain⟨f0,f1,f2,f3,f4,f5⟩:=hch b hb
  exact⟨f3,f1,f4,f5⟩
 ·obtain⟨o,es,ep,ho,r⟩:=hm
  exact⟨o,es,ep,k _ o (fun z=>(hch _ z).2.1 rfl) ho,r⟩
 ·by_cases hb:b=p
  ·subst hb
   rw[upd_same]at e
   cases e
   exact⟨hz,us,r,ht⟩
  ·rw[upd_ne hb]at e
   refine(I.hok b u e).stay (fun c v hc q=>k c v ?_ q) (fun c q=>by rw[upd_ne (nep c _ q)];exact q) fun c ys q=>by rw[upd_ne (nep c _ q)];exact q
   rcases hc with z|z
   ·rw[z];exact nch b u e
   ·exact nch c _ z
theorem Inv.turnedL{t':Nat}{ch:List Addr}(I:Inv X pins σ H s)(k:∀b o,b∉ch->s.heap.get? b=some o->h'.get? b=some o)
  (hch:∀b∈ch,FpOk X pins H b):Inv X pins σ H {s with heap:=h',toks:=t' }:=by
 have nch:∀b u,H b=some u->b∉ch:=fun b u e z=>by rw[(hch b z).1]at e;cases e
 refine I.step (g':=s.gens) (d':=s.drawn) (ch:=ch) (fun b hb=>?_) (fun b o _ _ hc e _=>k b o hc e) (fun b o _ _ hc e _=>⟨o.slots,k b o hc e⟩) (fun b o _ e n=>n)
  (fun b o hc e=>⟨o,k b o hc e⟩) (fun b ys e=>e) (fun b o u e=>e) (fun b ps e=>⟨#[],by rw[e];simp⟩) (fun m hm=>?_) (fun b u e=>?_) I.bare
 ·obtain⟨f0,f1,f2,f3,f4,f5⟩:=hch b hb
  exact⟨f3,f1,f4,f5⟩
 ·obtain⟨o,es,ep,ho,r⟩:=hm
  exact⟨o,es,ep,k _ o (fun z=>(hch _ z).2.1 rfl) ho,r⟩
 ·refine(I.hok b u e).stay (fun c v hc q=>k c v ?_ q) (fun _ q=>q) fun _ _ q=>q
  rcases hc with z|z
  ·rw[z];exact nch b u e
  ·exact nch c _ z
end
def Ite(K:PySem.W.Frag)(a:Addr):It :=
 ⟨fun i H=>∃xs x,SqL K H a xs/\xs[i]?=some x,fun i H x H'=>∃p y,H p=none/\x=.ref p/\H'=upd H p (.tup [.int i,y])/\∀xs,SqL K H a xs->xs[i]?=some y,fun i H=>∃xs,SqL K H a xs/\xs.length<=i⟩
theorem turn_enum{P:Program}{w:World}{K:PySem.W.Frag}{elts:List Expr}{x1}{tp:Pos}(a it en:Addr)(hne:en≠it) :
  Turn P w K (.Tuple elts x1 tp) (Ite K a) [en,it] en (fun i h=>(∃old,IsEnum h en it i old)/\h.IsListIter it a i) where
 mem:=by simp
 obj:=fun i h st b hb=>by
  obtain⟨⟨old,he⟩,o,e,c,d⟩:=st
  rcases List.mem_cons.mp hb with rfl|hb
  ·exact⟨_,he,fun v z=>by cases z⟩
  ·have e':b=it:=by simpa using hb
   subst e'
   exact⟨o,e,fun v z=>by rw[d]at z;cases z⟩
 keep:=fun i h h' st k=>⟨let ⟨old,he⟩:=st.1;⟨old,k en (by simp) _ he⟩,st.2.at fun o e=>k it (by simp) o e⟩
 item:=by
  intro X hP hw hK hc i pins s σ H E I hf st hg
  subst hP hw hK
  obtain⟨⟨old,he⟩,hit⟩:=st
  obtain⟨xs,x,hq,hx⟩:=hg
  obtain⟨its,rv,p,hz⟩:=I.list hq
  obtain⟨u,hu,ru⟩:=rv.get hx
  refine wpAny_pyNext_enum_item he hit p.isList (x:=u) (by simpa using hu) hne fun h1 heo hit1 ht1 hz1 hk1=>⟨_,rfl,?_⟩
  refine wpAny_letOwnedTupleGo_enum heo fun h2 he2 hs2=>?_
  have hpn:H s.heap.objs.size=none:=I.hok.fresh (Nat.le_refl _)
  have lt:∀b∈[en,it],b < s.heap.objs.size:=fun b hb=>by
   rcases List.mem_cons.mp hb with rfl|hb
   ·exact Heap.lt_size he
   ·have e':b=it:=by simpa using hb
    subst e'
    obtain⟨o,e,_⟩:=hit
    exact Heap.lt_size e
  have ht2:IsTup h2 s.heap.objs.size [Value.int i s.toks,u].toArray:=⟨_,(hs2.2 _ (Nat.ne_of_gt (lt en (by simp)))).trans ht1,rfl,_,rfl⟩
  have I2:Inv X pins σ (upd H s.heap.objs.size (.tup [.int i,x])) {s with heap:=h2,toks:=s.toks + 1}:=by
   refine Inv.turnedT (ch:=[en,it]) I (fun b o hb e=>?_) (fun b hb=>?_) hf (Nat.le_refl _) (by show 2<=sizeLine;decide) (.cons ⟨_,rfl⟩ (.cons ru .nil)) ht2
   ·have n1:b≠en:=fun z=>hb (by simp[z])
    have n2:b≠it:=fun z=>hb (by simp[z])
    exact(hs2.2 b n1).trans (hk1 b o n1 n2 e)
   ·rcases List.mem_cons.mp hb with rfl|hb
    ·exact⟨_,he2⟩
    ·have e':b=it:=by simpa using hb
     subst e'
     obtain⟨o,e,_⟩:=hit1
     exact⟨o,(hs2.2 b (Ne.symm hne)).trans e⟩
  refine⟨.ref s.heap.objs.size,_,I2,rfl,⟨_,x,hpn,rfl,rfl,fun ys hy=>by rw[I.list_inj hy hq];exact hx⟩,⟨⟨u,?_⟩,?_⟩,fun b hb=>?_⟩
  ·exact he2
  ·obtain⟨o,e,r⟩:=hit1
   exact⟨o,(hs2.2 it (Ne.symm hne)).trans e,r⟩
  ·rw[upd_ne (Nat.ne_of_lt (lt b hb))]
   exact(hf b hb).1
 done:=by
  intro X hP hw hK hc i pins s σ H E I hf st hg
  subst hP hw hK
  obtain⟨⟨old,he⟩,hit⟩:=st
  obtain⟨xs,hq,hx⟩:=hg
  obtain⟨its,rv,p,hz⟩:=I.list hq
  have hl:=rv.length
  refine wpAny_pyNext_enum_end (I.ok.hd hc) he hit p.isList (by simp;omega) fun h1 eb=>⟨rfl,?_⟩
  refine Inv.turnedL (ch:=[en,it]) I (t':=s.toks) (fun b o hb e=>eb b o (fun z=>hb (by simp[z])) e) hf
 self:=fun _ _ _ _ _ st h=>let ⟨old,he⟩:=st.1;wpAny_pyIter_enum he h
def enumT:Nat->List T->List T
 | _,[]=>[]
 | i,x::xs=>.tup [.int i,x]::enumT (i + 1) xs
theorem enumT_length:∀(i:Nat)(ts:List T),(enumT i ts).length=ts.length
 | _,[]=>rfl
 | i,_::r=>by simp[enumT,enumT_length (i + 1) r]
theorem enumT_get:∀(ts:List T)(j i:Nat)(t:T),ts[i]?=some t->(enumT j ts)[i]?=some (.tup [.int ((j + i:Nat):Int),t])
 | [],_,_,_,h=>by simp at h
 | x::r,j,0,t,h=>by simp at h;subst h;simp[enumT]
 | x::r,j,i + 1,t,h=>by
  simp only[enumT,List.getElem?_cons_succ]
  rw[enumT_get r (j + 1) i t (by simpa using h)]
  congr 5
  omega
section
variable {X:Cx} {a:Expr} {wa w:WE} {ws:WA} {pos:Pos}
def iEnum(ws:WA):WI:=fun τ Q=>ws τ fun ts=>match ts with
 | [.lst xs]=>Q (enumT 0 xs)
 | _=>False
theorem one_lst{P:List T->Prop}{ts:List T}(h:match ts with|[.lst xs]=>P xs|_=>False):∃xs,ts=[.lst xs]/\P xs:=by
 split at h
 ·exact⟨_,rfl,h⟩
 ·exact h.elim
theorem jiEnum{elts:List Expr}{x1}{tp p:Pos} (hg:Gl X "enumerate") (hm:X.mg "enumerate" = none) (ha:JA X [a] ws) (hs:starEach [a] X.env=[(false,eval a X.env)]:=by rfl) :
  JI X (.Tuple elts x1 tp) (.Call (.Name "enumerate" p) [a] [] pos) (iEnum ws):=by
 intro pins s σ H R I hw
 obtain⟨τ,Q0,Rs,hw,k⟩:=hw
 refine Call_ (ld_blt I hg hm boot_enumerate (PyProof.Rows.callWith_type1 (thn (ha pos pins s σ H (fun vs H1=>∃ts,Same H H1/\Reps X.K H1 ts vs/\(match ts with|[.lst xs]=>Q0 (enumT 0 xs)|_=>False)) I ⟨τ,_,Rs,hw,fun ts vs H1 S r q=>⟨ts,S,r,q⟩⟩) fun us s1 ⟨vs,H1,I1,r1,ts,S1,rt,q1⟩=>?_) hs rfl))
 ·obtain⟨xs,e0,q1⟩:=one_lst (P:=fun xs=>Q0 (enumT 0 xs)) q1
  subst e0
  obtain⟨v,rfl,rt1⟩:=reps1 rt
  rw[rep_lst]at rt1
  obtain⟨l,vs,rfl,hq,rr⟩:=rt1
  obtain⟨u,rfl,ru⟩:=vals1 r1
  cases ru
  obtain⟨its,rv,pl,hz⟩:=I1.list hq.sq
  refine call_enumerate_list pl.isList fun h2 he hit hsz hk=>?_
  refine wpAny_pyIter_enum he ?_
  have I2:Inv X pins σ H1 {s1 with heap:=h2}:=I1.kept (t':=s1.toks) hk
  refine⟨s1.heap.objs.size + 1,[s1.heap.objs.size + 1,s1.heap.objs.size],_,Ite X.K l,H1,rfl,I2,turn_enum l s1.heap.objs.size (s1.heap.objs.size + 1) (Nat.succ_ne_self _),⟨⟨_,he⟩,hit⟩,fun b hb=>?_,k _ _ H1 S1 ?_ q1⟩
  ·have hb':s1.heap.objs.size<=b:=by
    rcases List.mem_cons.mp hb with rfl|hb
    ·exact Nat.le_succ _
    ·have e:b=s1.heap.objs.size:=by simpa using hb
     rw[e]
     exact Nat.le_refl _
   exact I1.fpOk hb' (I1.hok.fresh hb')
  ·intro H2 K2
   have sq2:=(sqF_kp K2 hq).sq
   refine⟨fun i t ei=>?_,⟨vs,sq2,by rw[rr.length,enumT_length];exact Nat.le_refl _⟩⟩
   have hi:i < xs.length:=by
    have:=(List.getElem?_eq_some_iff.mp ei).1
    rwa [enumT_length]at this
   have ex:xs[i]?=some xs[i]:=List.getElem?_eq_getElem hi
   rw[enumT_get xs 0 i _ ex]at ei
   cases ei
   obtain⟨v,ev,rv⟩:=rr.get ex
   refine⟨⟨vs,v,sq2,ev⟩,fun x H3 y=>?_⟩
   obtain⟨p,y,hp,rfl,rfl,hy⟩:=y
   have z:=hy vs sq2
   rw[ev]at z
   cases z
   refine⟨same_new hp _,rep_tup.mpr ⟨p,_,rfl,SqT.of upd_same,.cons (rep_int.mpr ?_) (.one ((rv.kp K2).kp (.of (same_new hp _))))⟩⟩
   simp
end
end TL
end
section
namespace TL
open PySem PySem.Spec PyProof.Rows L2
def Cal(P:Program)(w:World)(K:PySem.W.Frag)(mg:Str->Option Value)(base:Heap)(k:Nat)(x:Str)(ps:List Str)(S:SpT):Prop :=
 ∃f fd,FnT P w K mg base k f fd ps S/\Binds K fd ps []/\PySem.W.keepIn K (.ref f)=true/\mg x=some (.ref f)
theorem Cal.mk{P:Program}{w:World}{K:PySem.W.Frag}{mg:Str->Option Value}{base:Heap}{k:Nat}{x qual:Str}{ps:List Str}{S:SpT}{st:Stmt}{f:Addr}{fd:FuncData}(F:Fun K x qual st f fd)(m:mg x=some (.ref f))
  (b:Binds K fd ps []) (h:FnT P w K mg base k f fd ps S):Cal P w K mg base k x ps S:=⟨f,fd,h,b,F.kp,m⟩
section
variable {X:Cx} {a b c e:Expr} {es:List Expr} {wa wb wc w:WE} {ws:WA} {pos:Pos} {st:Stmt}
theorem jcallC{k:Nat}{ps:List Str}{S:SpT}{x:Str}{p:Pos}(C:Cal X.prog X.w X.K X.mg X.base k x ps S)(hr:Room k X.A)(hg:Gl X x)
  (ha:JA X (e::es) ws) (hdb:(x==("__debug__" : Str))=false:=by decide) (he:starEach (e::es) X.env=(false,eval e X.env)::starEach es X.env:=by exact star1 rfl)
  (hpl:(backTo pos (starEach es X.env)).any (·.1)=false:=by exact stars rfl):JE X (.Call (.Name x p) (e::es) [] pos) (wCall S ws):=by
 obtain⟨f,fd,F,hb,hk,hm⟩:=C
 exact jcall F hr hg hm hk hb ha hdb he hpl
def sNever:WS:=fun _ _=>False
theorem jnever:JS X st sNever:=ps_of ps_never fun D σ H ⟨τ,D0,R,hw,_⟩=>hw.elim
end
def lawSp:SpT:=fun ts Q=>∃ns:List Int,ts=[.lst (ns.map T.int)]/\ns.length<=63/\Q (.bl true)
theorem len_law:∀ts Q,lawSp ts Q->ts.length=1:=fun ts Q ⟨ns,e,_⟩=>by subst e;rfl
theorem law_start{K:PySem.W.Frag}{H:Hp}{a:Addr}{ns:List Int}(hl:ns.length<=63)(hO:Only H)(hS:SqL K H a (ns.map V.int)):spT K 1 lawSp [.ref a] H (fun v _=>v=.bl true) fun _ _ _=>False:=by
 have sq:SqF K H a (ns.map V.int):=by
  rcases hS with (h|⟨o,h⟩)|h
  ·rcases hO a with z|⟨o,xs,z⟩
   ·rw[z]at h;cases h
   ·rw[z]at h;cases h
  ·exact .inl ⟨o,h⟩
  ·exact .inr h
 exact⟨_,fun t=>t=.bl true,rfl,.one (rep_lst.mpr ⟨a,_,rfl,sq,reps_ints ns⟩),⟨ns,rfl,hl,rfl⟩,fun t v H' S r q=>by subst q;exact rep_bl.mp r⟩
theorem walk{l:PySem.W.OpenLaw}{k:Nat}{x:Str}{q:Program}{loose:List Str}{XP:(Str->Option Value)->Heap->Prop}{YP:World->Heap->Prop}{d:DefRec}{K:Params->PySem.W.Frag}(hn:l.most=some 63)(hdf:d.params.defaults=[])(hr:Room k callerA)
  (hY:∀(w:World)(h:Heap),YP w h->(K w.params).In h)
  (F:∀(w:World)(mg:Str->Option Value)(fa:Addr)(h:Heap),(K w.params).In h->h.Ns mainGlobals mg->mg d.name=some (.ref fa) →
   ∃fd:FuncData,(∀(s:Shared)(u:Value),BindsTo s fd ⟨[u],[]⟩ [(x,u)])/\∀base:Heap,(K w.params).In base->base.Ns mainGlobals mg->FnOk l.prog w (K w.params) mg base CX0 k fa fd [x] (spT (K w.params) 1 lawSp)) :
  PySem.W.WalkO q loose XP YP l.row.toRowW d [] (fun f vs=>PySem.call f vs) :=
 L2.walk_of (n:=63) (k:=k) (x:=x) (CX:=fun _=>CX0) (sp:=fun w=>spT (K w.params) 1 lawSp) hn (by decide) hdf hr hY F (fun _ _ _ _ hl hO hS=>law_start hl hO hS) fun _ _ _ _ _ z=>z
end TL
end
section
namespace TL
open PySem PySem.Spec PyProof.Rows L2
theorem closLoop{env:Env}:∀(names:List (Str×NameKind))(cs:List (Str×Addr)),(∀x∈names,x.2=.free->∃c,env.cells.lookup x.1=some c)->(∀x c,cs.lookup x=some c->env.cells.lookup x=some c) →
  ∃cl,(forIn names cs fun x cs=>(if (x.2==NameKind.free)=true then do let a ← cellOf env x.1;pure (ForInStep.yield ((x.1,a)::cs)) else pure (ForInStep.yield cs):Sem (ForInStep (List (Str×Addr)))))=(pure cl:Sem (List (Str×Addr))) ∧
   (∀x c,cl.lookup x=some c->env.cells.lookup x=some c)/\(∀x c,cs.lookup x=some c->∃c,cl.lookup x=some c)/\∀x∈names,x.2=.free->∃c,cl.lookup x.1=some c
 | [],cs,_,hc=>⟨cs,rfl,hc,fun x c e=>⟨c,e⟩,fun _ h=>nomatch h⟩
 | (n,k)::r,cs,h,hc=>by
  by_cases hk:k=.free
  ·subst hk
   obtain⟨c,ec⟩:=h (n,.free) List.mem_cons_self rfl
   have e0:cellOf env n=pure c:=by unfold cellOf;rw[ec]
   obtain⟨cl,e,p1,p2,p3⟩:=closLoop (env:=env) r ((n,c)::cs) (fun x hx=>h x (List.mem_cons_of_mem _ hx)) (fun x d e=>by
    by_cases hx:x=n
    ·subst hx
     simp at e
     subst e
     exact ec
    ·have hb:(x==n)=false:=by simpa using hx
     rw[List.lookup_cons,hb]at e
     exact hc x d e)
   refine⟨cl,?_,p1,fun x d e=>?_,fun x hx hf=>?_⟩
   ·rw[List.forIn_cons]
    show ((if (NameKind.free==NameKind.free)=true then _ else _) >>= _)=_
    rw[if_pos (show (NameKind.free==NameKind.free)=true from rfl)]
    show ((cellOf env n >>= fun a=>pure (ForInStep.yield ((n,a)::cs))) >>= _)=_
    rw[e0]
    exact e
   ·by_cases hx:x=n
    ·subst hx
     exact p2 x c (by simp)
    ·have hb:(x==n)=false:=by simpa using hx
     exact p2 x d (by rw[List.lookup_cons,hb];exact e)
   ·rcases List.mem_cons.mp hx with rfl|hx
    ·exact p2 n c (by simp)
    ·exact p3 x hx hf
  ·have hb:(k==NameKind.free)=false:=by simpa using hk
   obtain⟨cl,e,p1,p2,p3⟩:=closLoop (env:=env) r cs (fun x hx=>h x (List.mem_cons_of_mem _ hx)) hc
   refine⟨cl,?_,p1,p2,fun x hx hf=>?_⟩
   ·rw[List.forIn_cons]
    show ((if (k==NameKind.free)=true then _ else _) >>= _)=_
    rw[if_neg (by rw[hb];exact Bool.false_ne_true)]
    exact e
   ·rcases List.mem_cons.mp hx with rfl|hx
    ·exact absurd hf hk
    ·exact p3 x hx hf
theorem closureFor_of{scope:Scope}{env:Env}(h:∀x∈scope.names,x.2=.free->∃c,env.cells.lookup x.1=some c) :
  ∃cl,closureFor scope env=pure cl/\(∀x c,cl.lookup x=some c->env.cells.lookup x=some c)/\∀x∈scope.names,x.2=.free->∃c,cl.lookup x.1=some c:=by
 obtain⟨cl,e,p1,_,p3⟩:=closLoop (env:=env) scope.names [] h (fun x c e=>by simp at e)
 refine⟨cl,?_,p1,p3⟩
 unfold closureFor
 have:(forIn scope.names ([]:List (Str×Addr)) fun x cs=>(match x with|(name,kind)=>(if (kind==NameKind.free)=true then do let a ← cellOf env name;pure (ForInStep.yield ((name,a)::cs)) else pure (ForInStep.yield cs):Sem (ForInStep (List (Str×Addr))))))=(pure cl:Sem (List (Str×Addr))):=e
 first
  | (rw[this];rfl)
  | (show (forIn scope.names ([]:List (Str×Addr)) _ >>= fun cs=>pure cs)=_;rw[this];rfl)
def compCx(X:Cx)(N:List Str)(scope:Scope)(cl:List (Str×Addr))(C:Addr)(s3:Shared)(H2:Hp)(ex:List Addr):Cx where
 prog:=X.prog
 w:=X.w
 K:=X.K
 mg:=X.mg
 base:=X.base
 A:=X.A
 N:=N
 s₀:=s3
 H₀:=H2
 env:=compEnvC scope cl C X.env
 outer:=X.stack
 stack:=X.stack
 ex:=ex
 fn:=fun _=>false
 calm:=true
 pn:=[]
 xe:=fun _ _=>False
section
variable {prog:Program} {w:World} {A:Around} {E:Value->Shared->Prop} {R:Result->Shared->Prop} {s:Shared}
theorem codeAny_compLoop_any{elt target iter:Expr}{ifs:List Expr}{scope:Scope}{pos:Pos}{it acc:Value}{env:Env}(I:Nat->Shared->Prop)
  (turn:∀n s,I n s->wpAny (model prog w) A (pyNext it) (fun r s₁=>match r with
   | none=>R (.ok .next) s₁
   | some v=>wpAny (model prog w) A (letOwnedTupleGo target it v) (fun _ s₁'=>wpAny (model prog w) A (assign target env v) (fun _ s₂ =>
     wpAny (model prog w) A (forIn ifs true fun c r=>if r=true then do let ok ← isTrue c env (eval c env);pure (ForInStep.yield ok) else pure (ForInStep.yield r)) (fun ok s₃ =>
      if ok=true then wpAny (model prog w) A (eval elt env) (fun x s₄ =>
       wpAny (model prog w) A (call (.builtin "list.append") [acc,x]) (fun _ s₅=>∃m,m < n/\I m s₅) (fun _ _=>False) s₄) (fun _ _=>False) s₃
      else ∃m,m < n/\I m s₃) (fun _ _=>False) s₂) (fun _ _=>False) s₁') (fun _ _=>False) s₁) (fun _ _=>False) s)
  (n:Nat) (h:I n s) :
  codeAny (model prog w) A (.compLoop (.ListComp elt [⟨target,iter,ifs,0⟩] scope pos) 0 it acc env) R s:=by
 refine codeAny_loop rfl I (fun n s hI=>?_) n h
 show wpAny _ A ((compTurn (.ListComp elt [⟨target,iter,ifs,0⟩] scope pos) 0 it acc env).onRaise (fun x=>do noteFrame x env;theTreesLotGoes x)) _ _ s
 refine wpAny_noted ?_
 rw[compTurn_list]
 refine wpAny_bind (wpAny_standAt (wpAny_bind (wpAny_mono (turn n s hI) (fun r s₁ h₁=>?_) fun _ _ h'=>h'.elim)))
 cases r with
 | none=>exact wpAny_pure h₁
 | some v =>
  refine wpAny_bind (wpAny_mono h₁ (fun _ s₁' h₁'=>?_) fun _ _ h'=>h'.elim)
  refine wpAny_bind (wpAny_mono h₁' (fun _ s₂ h₂=>wpAny_bind (wpAny_mono h₂ (fun ok s₃ h₃=>?_) fun _ _ h'=>h'.elim)) fun _ _ h'=>h'.elim)
  cases ok with
  | false=>exact wpAny_pure ⟨rfl,h₃⟩
  | true =>
   exact wpAny_bind (wpAny_bind (wpAny_mono h₃ (fun x s₄ h₄=>wpAny_bind (wpAny_mono h₄ (fun _ s₅ h₅=>wpAny_pure (wpAny_pure ⟨rfl,h₅⟩)) fun _ _ h'=>h'.elim)) fun _ _ h'=>h'.elim))
end
def hide:Slot->Slot
 | .own ts=>.see ts
 | .see _=>.no
 | .vat t _=>.val t
 | s=>s
def compT(g:TGt)(ut:WT)(we:WE):List T->List T->List Slot->(List T->Prop)->Prop
 | [],acc,_,Q=>Q acc
 | x::xs,acc,τ,Q=>g x τ fun τ1=>ut τ1 fun k=>(k=true->we τ1 fun t=>compT g ut we xs (acc++[t]) τ1 Q)/\(k=false->compT g ut we xs acc τ1 Q)
def wComp(wi:WI)(g:TGt)(ut:WT)(we:WE)(n:Nat)(fr:List Nat):WE:=fun τ Q=>wi τ fun ts=>ts.length<=1000/\compT g ut we ts [] (List.replicate n Slot.no++fr.map fun i=>hide (sget τ i)) fun rs=>Q (.lst rs)
def JTs(X:Cx)(ifs:List Expr)(u:WT):Prop :=
 ∀(pins:List (Addr×Obj))(s:Shared)(σ:St)(H:Hp)(Q:Bool->Hp->Prop),Inv X pins σ H s->upT X.K X.H₀ u σ H Q →
  wpAny (model X.prog X.w) X.A (forIn ifs true fun c r=>if r=true then do let ok ← isTrue c X.env (eval c X.env);pure (ForInStep.yield ok) else pure (ForInStep.yield r)) (TP X pins σ Q) X.xe s
def tTrue:WT:=fun _ Q=>Q true
theorem jts0{X:Cx}:JTs X [] tTrue:=fun pins s σ H Q I ⟨τ,Q0,R,hw,k⟩=>wpAny_tests_nil ⟨H,I,k _ H (.refl H) hw⟩
theorem jts1{X:Cx}{c:Expr}{u:WT}(h:JT X c u):JTs X [c] u:=fun pins s σ H Q I hw=>wpAny_tests_one (h pins s σ H Q I hw)
theorem relabel_mem{scope:Scope}{env:Env}{x:Str}{k':NameKind}(h:(relabel scope env).names.lookup x=some k'):∃k,(x,k)∈scope.names/\(k'=k∨(k=.free/\k'=.cell)):=by
 have hm:=PySem.mem_of_lookup h
 obtain⟨⟨n,k⟩,hn,e⟩:=List.mem_map.mp hm
 by_cases hc:(k==NameKind.free&&env.scope.kind == .function&&env.kindOf n==some .cell)=true
 ·have e':(n,NameKind.cell)=(x,k'):=by simpa [hc] using e
  cases e'
  have hfree:=(Bool.and_eq_true_iff.mp (Bool.and_eq_true_iff.mp hc).1).1
  exact⟨_,hn,.inr ⟨by simpa using hfree,rfl⟩⟩
 ·have e':(n,k)=(x,k'):=by simpa [hc] using e
  cases e'
  exact⟨_,hn,.inl rfl⟩
theorem relabel_free{env:Env}(hk:env.scope.kind=.function):∀{names:List (Str×NameKind)}{x:Str},names.lookup x=some .free->env.kindOf x=some .cell →
  (names.map fun (n,k)=>if (k==NameKind.free&&env.scope.kind == .function&&env.kindOf n==some .cell) then (n,NameKind.cell) else (n,k)).lookup x=some .cell
 | [],_,h,_=>by simp at h
 | (n,k)::r,x,h,hx=>by
  have ih:=@relabel_free env hk r x
  show List.lookup x ((if (k==NameKind.free&&env.scope.kind == .function&&env.kindOf n==some .cell)=true then (n,NameKind.cell) else (n,k))::_)=_
  cases hb:x==n with
  | true =>
   have e:x=n:=by simpa using hb
   subst e
   simp only[List.lookup_cons,hb]at h
   cases h
   rw[if_pos (by rw[hk,hx];rfl)]
   simp[List.lookup_cons]
  | false =>
   simp only[List.lookup_cons,hb]at h
   by_cases hc:(k==NameKind.free&&env.scope.kind == .function&&env.kindOf n==some .cell)=true
   ·rw[if_pos hc];simp only[List.lookup_cons,hb];exact ih h hx
   ·rw[if_neg hc];simp only[List.lookup_cons,hb];exact ih h hx
section
variable {X:Cx} {pos:Pos}
theorem comp_start{pins:List (Addr×Obj)}{σ:St}{H:Hp}{s:Shared}{scope:Scope}{cl:List (Str×Addr)}{C:Addr}{N:List Str}{σ':St}{s4:Shared}{ex:List Addr}
  (I:Inv X pins σ H s) (hc:X.calm=true) (hk:scope.kind=.function) (hC:s.heap.objs.size<=C)
  (hcl:∀x c,cl.lookup x=some c->X.env.cells.lookup x=some c)
  (hhas:∀x,((relabel scope X.env).names.lookup x=some .cell∨(relabel scope X.env).names.lookup x=some .free)->∃c,cl.lookup x=some c)
  (hex:∀b∈ex,FpOk X pins H b) (hlt:∀b∈ex,b < s.heap.objs.size)
  (hos:s4.os=s.os) (hbare:AllBare s4.gens) (hkeep:∀b o,s.heap.get? b=some o->s4.heap.get? b=some o) {m:Str->Option Value} (hns:s4.heap.Ns C m)
  (hloc:∀(i:Nat)(x:Str)(v:V),N[i]?=some x->σ'[i]?=some (some v)->∃u,RelV v u/\Look (compEnvC scope cl C X.env) s4.heap m x u) (hlen:σ'.length=N.length) :
  Inv (compCx X N scope cl C s H ex) [] σ' H s4:=by
 have bs:=I.bs
 refine⟨⟨I.ok.mod,hk,I.ok.glob,I.ok.blt,hC,fun x y c h1 h2=>I.ok.inj x y c (hcl _ _ h1) (hcl _ _ h2),hhas,fun _ _ z=>(by cases z),fun _=>I.ok.hd hc,I.ok.frames,.inl rfl,
   fun b hb=>⟨Nat.ne_of_lt (Nat.lt_of_lt_of_le (hlt b hb) hC),fun x c e=>(hex b hb).2.2.2.2.1 x c (hcl _ _ e)⟩,bs,Nat.le_trans I.ok.bsz I.sz,fun b o e hb=>?_,fun b hb=>?_,I.stack,I.stkFree⟩,
  hos,hbare,Un.kept hkeep,⟨m,hns,fun i x v h1 h2 _=>hloc i x v h1 h2⟩,fun x c e=>?_,I.hok.fresh hC,fun x c e=>I.freeC x c (hcl _ _ e),fun p hp=>absurd (show p∈([]:List (Addr×Obj)) from hp) (by simp),I.hok.kept hkeep,hlen⟩
 ·rcases (hex b hb).2.2.2.1 with z|z
  ·exact I.ok.noex b o e z
  ·exact absurd (Nat.lt_of_lt_of_le (Heap.lt_size e) (Nat.le_trans I.ok.bsz z)) (Nat.lt_irrefl _)
 ·intro z
  obtain⟨_,f1,f2,_⟩:=hex b hb
  rcases List.mem_cons.mp (I.stkSub b z) with e|e
  ·exact f1 e
  ·exact f2 e
 ·obtain⟨v,o,ho,hd⟩:=I.cell x c (hcl _ _ e)
  exact⟨v,o,hkeep c o ho,hd⟩
def slotsOf(σ:St)(n:Nat)(fr:List (Str×Nat)):St:=List.replicate n none++fr.map fun p=>(σ[p.2]?).getD none
theorem repSt_comp{K:PySem.W.Frag}{H0 H H2:Hp}{σ:St}{τ:List Slot}(n:Nat)(fr:List (Str×Nat))(R:RepSt K H0 H σ τ)(S:Same H H2) :
  RepSt K H2 H2 (slotsOf σ n fr) (List.replicate n Slot.no++(fr.map (·.2)).map fun i=>hide (sget τ i)):=by
 have key:∀i,sget (List.replicate n Slot.no++(fr.map (·.2)).map fun i=>hide (sget τ i)) i=.no∨∃p,fr[i - n]?=some p/\n<=i/\sget (List.replicate n Slot.no++(fr.map (·.2)).map fun i=>hide (sget τ i)) i=hide (sget τ p.2):=fun i=>by
  by_cases hi:i < n
  ·left
   rw[sget_append_left (by simpa using hi),sget_no]
  ·rw[sget_append_right (by simpa using hi),List.length_replicate]
   have gen:∀(l:List (Str×Nat))(j:Nat),sget ((l.map (·.2)).map fun i=>hide (sget τ i)) j=.no∨∃p,l[j]?=some p/\sget ((l.map (·.2)).map fun i=>hide (sget τ i)) j=hide (sget τ p.2):=by
    intro l
    induction l with
    | nil=>intro j;left;rfl
    | cons p r ih =>
     intro j
     cases j with
     | zero=>exact .inr ⟨p,rfl,rfl⟩
     | succ j=>exact ih j
   rcases gen fr (i - n) with z|⟨p,e1,e2⟩
   ·exact .inl z
   ·exact .inr ⟨p,e1,by omega,e2⟩
 have noOwn:∀s ts,hide s ≠ .own ts:=fun s ts=>by cases s<;>simp[hide]
 refine⟨.refl H2,by simp[slotsOf],fun i=>?_,fun i j ts us p _ h1 _ _ _=>?_⟩
 ·rcases key i with z|⟨p,e1,hi,e2⟩
  ·rw[z];trivial
  ·rw[e2]
   have ge:(slotsOf σ n fr)[i]?=some ((σ[p.2]?).getD none):=by
    unfold slotsOf
    rw[List.getElem?_append_right (by simpa using hi),List.length_replicate,List.getElem?_map,e1]
    rfl
   have sl:=R.slot p.2
   cases e:sget τ p.2 with
   | no=>trivial
   | see ts=>trivial
   | vat t v =>
    rw[e]at sl
    exact⟨v,by rw[ge,sl.1];rfl,sl.2.kp (.of S)⟩
   | dic ps =>
    rw[e]at sl
    obtain⟨q,o,kvs,ev,h1,ek,r⟩:=sl
    exact⟨q,o,kvs,by rw[ge,ev];rfl,S _ _ h1,ek,r.kp (.of S)⟩
   | own ts =>
    rw[e]at sl
    obtain⟨q,vs,ev,h1,r,_⟩:=sl
    exact⟨q,vs,by rw[ge,ev];rfl,S _ _ h1,r.kp (.of S),by rw[S _ _ h1];exact fun z=>by cases z⟩
   | val t =>
    rw[e]at sl
    obtain⟨v,ev,r⟩:=sl
    exact⟨v,by rw[ge,ev];rfl,r.kp (.of S)⟩
 ·rcases key i with z|⟨p,_,_,e2⟩
  ·rw[z]at h1;cases h1
  ·rw[e2]at h1;exact noOwn _ _ h1
theorem comp_end{X X':Cx}{pins pins':List (Addr×Obj)}{σ σ5:St}{H2 H5:Hp}{s2 s6:Shared}{fp:List Addr}{Da:Addr}{h3:Heap}{vs:List V}{its:List Value}{k5:Nat}(eP:X'.prog=X.prog)(eW:X'.w=X.w)(eFs:X'.fs=frs X.stack)(eEx:X'.ex=Da::fp)(eH:X'.H₀=H2)
  (eS:X'.s₀.heap=h3) (eOs:X'.s₀.os=s2.os) (hCn:X'.env.locals=Da + 1) (pushK:∀b o,s2.heap.get? b=some o->h3.get? b=some o) (hDa:s2.heap.objs.size=Da) (I2:Inv X pins σ H2 s2) (f2:∀b∈fp,FpOk X pins H2 b) (I6:Inv X' pins' σ5 H5 s6)
  (frD:H5 Da=none) (hD:s6.heap.get? Da=some {cls:=.type "list", dict:=none,data:=.seq its.toArray k5}) (rv:Vals vs its) (hz:vs.length<=sizeLine) :
  Inv X pins σ (upd H5 Da (.frz {cls:=.type "list", dict:=none,data:=.seq its.toArray k5} (.lst vs))) s6:=by
 have un:=I6.base
 rw[eFs,eEx,eH,eS]at un
 have old:∀b o,s2.heap.get? b=some o->b≠Da:=fun b o e=>by
  have lt:=Heap.lt_size e
  rw[hDa]at lt
  exact Nat.ne_of_lt lt
 have hnD:∀b,H5 b≠none->b≠Da:=fun b h z=>h (by rw[z];exact frD)
 have ex:∀b o,s2.heap.get? b=some o->b∉fp->b∉Da::fp:=fun b o e hb z=>by
  rcases List.mem_cons.mp z with z|z
  ·exact old b o e z
  ·exact hb z
 refine I2.call' (s':=s6) (ch:=fp) (by rw[I6.os,eOs]) ⟨fun b o e n hf hx=>?_,fun b o e n hf hx=>?_,fun b o e n hx=>?_,fun b o e hx=>?_,fun b xs e=>?_,fun b o u e=>?_,fun b ps e=>?_⟩ (fun b ob eb=>?_) I6.bare fun b hb=>?_
 ·exact un.keep b o (pushK b o e) n hf (ex b o e hx)
 ·exact un.slot b o (pushK b o e) n hf (ex b o e hx)
 ·rw[upd_ne (old b o e)]
  exact un.free b o (pushK b o e) n (ex b o e hx)
 ·exact un.there b o (pushK b o e) (ex b o e hx)
 ·have e1:=un.tups b xs e
  rw[upd_ne (hnD b (by rw[e1];simp))]
  exact e1
 ·have e1:=un.frzs b o u e
  rw[upd_ne (hnD b (by rw[e1];simp))]
  exact e1
 ·obtain⟨more,e1⟩:=un.tbls b ps e
  exact⟨more,by rw[upd_ne (hnD b (by rw[e1];simp))];exact e1⟩
 ·by_cases hb:b=Da
  ·subst hb
   rw[upd_same]at eb
   cases eb
   exact⟨hD,hz,its,k5,rv,hD⟩
  ·rw[upd_ne hb]at eb
   have o5:=I6.hok b ob eb
   rw[eP,eW]at o5
   exact o5.stay (fun c v hc q=>q) (fun c q=>by rw[upd_ne (hnD c (by rw[q];simp))];exact q) fun c ys q=>by rw[upd_ne (hnD c (by rw[q];simp))];exact q
 ·obtain⟨g1,g2,g3,g4,g5,g6⟩:=f2 b hb
  exact⟨g4,g2,g5,g6⟩
def WkS(K:PySem.W.Frag)(J:It)(ts:List T)(H1:Hp):Prop:=∀H2,Same H1 H2->(∀i t,ts[i]?=some t->J.go i H2/\∀x H3,J.yld i H2 x H3->Same H2 H3/\Rep K H3 t x)/\J.stop ts.length H2
theorem Wk.s{K:PySem.W.Frag}{J:It}{ts:List T}{H:Hp}(h:Wk K J ts H):WkS K J ts H:=fun H2 S=>h H2 (.of S)
def upIc(K:PySem.W.Frag)(H0:Hp)(w:WI):TI:=fun σ H R=>∃(τ:List Slot) (Q0:List T->Prop),RepSt K H0 H σ τ/\w τ Q0/\∀ts J H',Same H H'->WkS K J ts H'->Q0 ts->R J H'
def JIc(X:Cx)(tg iter:Expr)(w:WI):Prop:=PI X tg iter (upIc X.K X.H₀ w)
theorem JI.c{X:Cx}{tg iter:Expr}{w:WI}(h:JI X tg iter w):JIc X tg iter w:=pi_of h fun σ H R ⟨τ,Q0,R0,hw,k⟩=>⟨τ,Q0,R0,hw,fun ts J H' S wk q=>k ts J H' S wk.s q⟩
inductive CompInv (K:PySem.W.Frag) (X':Cx) (ts:List T) (g:TGt) (ut:WT) (we:WE) (Q0:T->Prop) (tn':Nat->Heap->Prop) (Da:Addr) (fp:List Addr) (n:Nat) (s':Shared):Prop
 | mk (i:Nat) (σ':St) (H':Hp) (τ':List Slot) (acc:List T) (vs:List V) (its:List Value) (k:Nat) (e:n=ts.length - i) (hi:i<=ts.length) (I:Inv X' [] σ' H' s') (st:tn' i s'.heap) (fr:∀b∈Da::fp,H' b=none)
  (R:RepSt X'.K X'.H₀ H' σ' τ') (hD:s'.heap.get? Da=some {cls:=.type "list", dict:=none,data:=.seq (List.toArray its) k}) (rv:Vals vs its) (ra:Reps K H' acc vs) (hl:acc.length<=i) (q:compT g ut we (ts.drop i) acc τ' fun rs=>Q0 (.lst rs)) :
  CompInv K X' ts g ut we Q0 tn' Da fp n s'
theorem comp_loop{X X':Cx}{elt target iter:Expr}{ifs:List Expr}{scope:Scope}{pos:Pos}{g:TGt}{ut:WT}{we:WE}{use:Option (Value->Sem Unit)}{QQ:Value->Shared->Prop}{pins:List (Addr×Obj)}{σ σ4:St}{H H2:Hp}{s2 s4:Shared}{h3:Heap}{it Da:Addr}{fp:List Addr}{tn':Nat->Heap->Prop}{J:It}{ts:List T}{Q0:T->Prop}{τ4:List Slot}
  (hg':JG X' target g) (hu':JTs X' ifs ut) (he':JE X' elt we) (eP:X'.prog=X.prog) (eW:X'.w=X.w) (eK:X'.K=X.K) (eA:X'.A=X.A) (eH:X'.H₀=H2) (eE:X'.xe=fun _ _=>False) (eC:X'.calm=true) (eFs:X'.fs=frs X.stack) (eEx:X'.ex=Da::fp) (eS:X'.s₀.heap=h3) (eOs:X'.s₀.os=s2.os) (ePn:X'.pn=[])
  (hCn:X'.env.locals=Da + 1) (pushK:∀b o,s2.heap.get? b=some o->h3.get? b=some o) (hDa:s2.heap.objs.size=Da) (I2:Inv X pins σ H2 s2) (f2:∀b∈fp,FpOk X pins H2 b) (Tn:Turn X.prog X.w X.K target J fp it tn') (ne:Da∉fp) (S2:Same H H2) (wk:WkS X.K J ts H2) (hlen:ts.length<=1000)
  (J4:Inv X' [] σ4 H2 s4) (R4:RepSt X'.K X'.H₀ H2 σ4 τ4) (st4:tn' 0 s4.heap) (fr4:∀b∈Da::fp,H2 b=none) (hDat:s4.heap.get? Da=some {cls:=.type "list", dict:=none,data:=.seq ([]:List Value).toArray}) (q:compT g ut we ts [] τ4 fun rs=>Q0 (.lst rs))
  (hfp:∀H6:Hp,H6 X'.env.locals=none->FpOk X pins H6 X'.env.locals)
  (hend:∀(s6:Shared)(H6:Hp)(D C:Addr)(m6:Str->Option Value)(t:T)(f:Flow),Inv X pins σ H6 s6->FpOk X pins H6 C->s6.heap.Ns C m6->Same H H6->Rep X.K H6 t (.ref D)->Q0 t->(∃(H5:Hp) (o:Obj) (vs:List V) (ts:List T),H6=upd H5 D (.frz o (.lst vs))/\H5 D=none/\Same H H5/\t=.lst ts/\Reps X.K H5 ts vs)->compPost (model X.prog X.w) X.A X.xe use QQ (.ref D) C (.ok f) s6) :
  codeAny (model X.prog X.w) X.A (.compLoop (.ListComp elt [⟨target,iter,ifs,0⟩] scope pos) 0 (.ref it) (.ref Da) X'.env) (compPost (model X.prog X.w) X.A X.xe use QQ (.ref Da) X'.env.locals) s4:=by
 have stat:∀{H':Hp}{b:Addr},b∈Da::fp->H' b=none->FpOk X' [] H' b:=fun {H' b} hb hn=>by
  have o:=(J4.ok.exf b (by rw[eEx];exact hb))
  refine⟨hn,o.1,J4.ok.exfs b (by rw[eEx];exact hb),.inl (by rw[eEx];exact hb),o.2,fun p hp=>?_⟩
  rw[ePn]at hp
  exact absurd (show p∈([]:List (Addr×Obj)) from hp) (by simp)
 refine codeAny_compLoop_any (CompInv X.K X' ts g ut we Q0 tn' Da fp) ?_ ts.length
  ⟨0,_,H2,_,[],[],[],0,by simp,Nat.zero_le _,J4,st4,fr4,R4,hDat,.nil,reps_nil.mpr rfl,Nat.le_refl _,by simpa using q⟩
 rintro n s5 ⟨i,σ5,H5,τ5,acc,vs,its,k5,rfl,hi5,I5,st5,fr5,R5,hD5,rv5,ra5,hl5,q5⟩
 have K5:Same H2 H5:=by
  have:=R5.same
  rwa [eH]at this
 obtain⟨wi5,ws5⟩:=wk H5 K5
 have fp5:∀b∈fp,FpOk X' [] H5 b:=fun b hb=>stat (List.mem_cons_of_mem _ hb) (fr5 b (List.mem_cons_of_mem _ hb))
 rw[← eA]
 by_cases hlt:i < ts.length
 ·have ei:ts[i]?=some ts[i]:=List.getElem?_eq_getElem hlt
  obtain⟨go,yl⟩:=wi5 i _ ei
  rw[List.drop_eq_getElem_cons hlt]at q5
  have ID:Inv X' ([]++pinsAt [Da] s5.heap) σ5 H5 s5:=I5.pinned (fp:=[Da]) (fun b hb=>stat (by rw[List.mem_singleton.mp hb];exact List.mem_cons_self) (fr5 b (by rw[List.mem_singleton.mp hb];exact List.mem_cons_self))) fun b hb=>by
   rw[List.mem_singleton.mp hb]
   exact⟨_,hD5,fun v z=>(by cases z)⟩
  have fpp:∀{H':Hp},(∀b∈fp,H' b=none)->∀b∈fp,FpOk X' ([]++pinsAt [Da] s5.heap) H' b:=fun hn b hb=>by
   obtain⟨g1,g2,g3,g4,g5,g6⟩:=stat (H':=_) (List.mem_cons_of_mem _ hb) (hn b hb)
   refine⟨g1,g2,g3,g4,g5,fun p hp=>?_⟩
   rcases List.mem_append.mp hp with z|z
   ·rw[ePn]at z;exact absurd (show p∈([]:List (Addr×Obj)) from z) (by simp)
   ·rw[List.nil_append]at z
    obtain⟨z1,_⟩:=of_pinsAt z
    rw[List.mem_singleton.mp z1]
    intro e
    exact ne (by rw[e];exact hb)
  have frf:∀b∈fp,H5 b=none:=fun b hb=>fr5 b (List.mem_cons_of_mem _ hb)
  refine wpAny_mono (Tn.item X' eP eW eK eC i _ s5 σ5 H5 (fun _ _=>False) ID (fpp frf) st5 go) (fun r s6 h6=>?_) fun _ _ z=>z
  obtain⟨u,rfl,h6⟩:=h6
  refine wpAny_mono h6 (fun _ s7 h7=>?_) fun _ _ z=>z
  obtain⟨x,H7,I7,rx,y7,st7,fr7⟩:=h7
  obtain⟨S7,r7⟩:=yl x H7 y7
  have I7p:=I7.pinned (fpp fr7) (Tn.obj _ _ st7)
  have R7:=R5.mono S7
  have g7:=hg' _ s7 σ5 H7 x u (fun σ8 H8=>∃τ8,Same H7 H8/\RepSt X'.K X'.H₀ H8 σ8 τ8/\ut τ8 fun k=>(k=true->we τ8 fun t=>compT g ut we (ts.drop (i + 1)) (acc++[t]) τ8 fun rs=>Q0 (.lst rs))/\(k=false->compT g ut we (ts.drop (i + 1)) acc τ8 fun rs=>Q0 (.lst rs))) I7p rx
   ⟨ts[i],τ5,_,R7,(by rw[eK];exact r7),q5,fun τ8 σ8 H8 S8 R8 q8=>⟨τ8,S8,R8,q8⟩⟩
  rw[eE,eP,eW]at g7
  refine wpAny_mono g7 (fun _ s8 h8=>?_) fun _ _ z=>z
  obtain⟨σ8,H8,I8,τ8,S8,R8,q8⟩:=h8
  have u8:=hu' _ s8 σ8 H8 (fun k H9=>Same H8 H9/\((k=true->we τ8 fun t=>compT g ut we (ts.drop (i + 1)) (acc++[t]) τ8 fun rs=>Q0 (.lst rs))/\(k=false->compT g ut we (ts.drop (i + 1)) acc τ8 fun rs=>Q0 (.lst rs)))) I8 ⟨τ8,_,R8,q8,fun k H9 S9 q9=>⟨S9,q9⟩⟩
  rw[eE,eP,eW]at u8
  refine wpAny_mono u8 (fun k s9 h9=>?_) fun _ _ z=>z
  obtain⟨H9,I9,S9,q9⟩:=h9
  have R9:=R8.mono S9
  have pinD:∀{s':Shared}{σ':St}{H':Hp},Inv X' (([]++pinsAt [Da] s5.heap)++pinsAt fp s7.heap) σ' H' s'->s'.heap.get? Da=some {cls:=.type "list", dict:=none,data:=.seq its.toArray k5}/\H' Da=none:=fun I'=>by
   have z:=I'.pin (Da,_) (List.mem_append_right _ (List.mem_append_left _ (by rw[List.nil_append];exact mem_pinsAt (List.mem_singleton.mpr rfl) hD5)))
   exact⟨z.1,z.2.1⟩
  have pinF:∀{s':Shared}{σ':St}{H':Hp},Inv X' (([]++pinsAt [Da] s5.heap)++pinsAt fp s7.heap) σ' H' s'->tn' (i + 1) s'.heap/\∀b∈fp,H' b=none:=fun {s' σ' H'} I'=>by
   refine⟨Tn.keep _ _ _ st7 fun b hb o e=>(I'.pin (b,o) (List.mem_append_right _ (List.mem_append_right _ (mem_pinsAt hb e)))).1,fun b hb=>?_⟩
   obtain⟨o,e,d⟩:=Tn.obj _ _ st7 b hb
   exact(I'.pin (b,o) (List.mem_append_right _ (List.mem_append_right _ (mem_pinsAt hb e)))).2.1
  have frD:∀{H':Hp},H' Da=none->(∀b∈fp,H' b=none)->∀b∈Da::fp,H' b=none:=fun h1 h2 b hb=>by
   rcases List.mem_cons.mp hb with rfl|hb
   ·exact h1
   ·exact h2 b hb
  have unp:∀{s':Shared}{σ':St}{H':Hp},Inv X' (([]++pinsAt [Da] s5.heap)++pinsAt fp s7.heap) σ' H' s'->Inv X' [] σ' H' s':=fun I'=>I'.pins_of fun p hp=>absurd hp (by simp)
  cases k with
  | false =>
   rw[if_neg Bool.false_ne_true]
   refine⟨ts.length - (i + 1),by omega,i + 1,σ8,H9,τ8,acc,vs,its,k5,rfl,hlt,unp I9,(pinF I9).1,frD (pinD I9).2 (pinF I9).2,R9,(pinD I9).1,rv5,ra5.kp (.of (S7.trans (S8.trans S9))),by omega,q9.2 rfl⟩
  | true =>
   rw[if_pos rfl]
   have e9:=he' _ s9 σ8 H9 (fun v H10=>∃t,Same H9 H10/\Rep X'.K H10 t v/\compT g ut we (ts.drop (i + 1)) (acc++[t]) τ8 fun rs=>Q0 (.lst rs)) I9 ⟨τ8,_,R9,q9.1 rfl,fun t v H10 S10 r10 q10=>⟨t,S10,r10,q10⟩⟩
   rw[eE,eP,eW]at e9
   refine wpAny_mono e9 (fun y s10 h10=>?_) fun _ _ z=>z
   obtain⟨v,H10,I10,rv,t,S10,r10,q10⟩:=h10
   have hlen5:its.length<=1000:=by
    have e1:=rv5.length
    have e2:=ra5.length
    omega
   refine wpAny_list_append_plain (hsz:=by rw[List.size_toArray];exact few hlen5) ⟨k5,(pinD I10).1⟩ fun h11 hl11 hs11=>?_
   obtain⟨k11,hl11⟩:=hl11
   have I11:Inv X' [] σ8 H10 {s10 with heap:=h11}:=by
    obtain⟨g1,g2,g3,g4,g5,g6⟩:=stat (H':=H10) List.mem_cons_self (pinD I10).2
    exact(unp I10).turned (t':=s10.toks) (it:=Da) (fun b o hb e=>(hs11.2 b hb).trans e) g1 g2 g4 g5 g6
   have st11:tn' (i + 1) h11:=Tn.keep _ _ _ (pinF I10).1 fun b hb o e=>(hs11.2 b (fun z=>ne (by rw[← z];exact hb))).trans e
   refine⟨ts.length - (i + 1),by omega,i + 1,σ8,H10,τ8,acc++[t],vs++[v],its++[y],k11,rfl,hlt,I11,st11,frD (pinD I10).2 (pinF I10).2,R9.mono S10,?_,rv5.append (.cons rv .nil),(ra5.kp (.of (S7.trans (S8.trans (S9.trans S10))))).append (.one (by rw[← eK];exact r10)),by simp;omega,q10⟩
   have ea:(its++[y]).toArray=its.toArray.push y:=by simp
   rw[ea]
   exact hl11
 ·have e:i=ts.length:=by omega
  subst e
  rw[List.drop_length]at q5
  have q5':Q0 (.lst acc):=q5
  refine wpAny_mono (Tn.done X' eP eW eK eC ts.length ([]++pinsAt [Da] s5.heap) s5 σ5 H5 (fun _ _=>False) ?_ ?_ st5 ws5) (fun r s6 h6=>?_) fun _ _ z=>z
  ·exact I5.pinned (fp:=[Da]) (fun b hb=>stat (by rw[List.mem_singleton.mp hb];exact List.mem_cons_self) (fr5 b (by rw[List.mem_singleton.mp hb];exact List.mem_cons_self))) fun b hb=>by
    rw[List.mem_singleton.mp hb]
    exact⟨_,hD5,fun v z=>(by cases z)⟩
  ·intro b hb
   obtain⟨g1,g2,g3,g4,g5,g6⟩:=stat (H':=H5) (List.mem_cons_of_mem _ hb) (fr5 b (List.mem_cons_of_mem _ hb))
   refine⟨g1,g2,g3,g4,g5,fun p hp=>?_⟩
   rcases List.mem_append.mp hp with z|z
   ·rw[ePn]at z;exact absurd (show p∈([]:List (Addr×Obj)) from z) (by simp)
   ·rw[List.nil_append]at z
    obtain⟨z1,_⟩:=of_pinsAt z
    rw[List.mem_singleton.mp z1]
    intro e
    exact ne (by rw[e];exact hb)
  obtain⟨rfl,I6⟩:=h6
  have z6:=I6.pin (Da,_) (List.mem_append_right _ (by rw[List.nil_append];exact mem_pinsAt (List.mem_singleton.mpr rfl) hD5))
  obtain⟨m6,hn6,_⟩:=I6.loc
  have hz:vs.length<=sizeLine:=by rw[ra5.length];exact few (by omega)
  have fin:=comp_end eP eW eFs eEx eH eS eOs hCn pushK hDa I2 f2 I6 (fr5 _ List.mem_cons_self) z6.1 rv5 hz
  have S5:Same H2 H5:=by have:=R5.same;rwa [eH]at this
  have S6:Same H2 (upd H5 Da (.frz {cls:=.type "list", dict:=none,data:=.seq its.toArray k5} (.lst vs))):=S5.trans (same_new (fr5 _ List.mem_cons_self) _)
  have hfpC:=hfp _ (show (upd H5 Da (.frz {cls:=.type "list", dict:=none,data:=.seq its.toArray k5} (.lst vs))) X'.env.locals=none by rw[upd_ne (by rw[hCn];exact Nat.succ_ne_self _)];exact I6.free)
  show compPost (model X.prog X.w) X'.A X.xe use QQ (.ref Da) X'.env.locals (.ok .next) s6
  rw[eA]
  exact hend s6 _ _ _ m6 (.lst acc) _ fin hfpC hn6 (S2.trans S6) (rep_lst.mpr ⟨_,vs,rfl,.inl ⟨_,upd_same⟩,ra5.kp (.of (same_new (fr5 _ List.mem_cons_self) _))⟩) q5' ⟨H5,_,vs,acc,rfl,fr5 _ List.mem_cons_self,S2.trans S5,rfl,ra5⟩
theorem comp_core{elt target iter:Expr}{ifs:List Expr}{scope sc0:Scope}{tn N0:List Str}{fr:List (Str×Nat)}{wi:WI}{g:TGt}{ut:WT}{we:WE}(hsc:X.env.scope=sc0)(hN0:X.N=N0)(hc:X.calm=true)
  (hi:JIc X target iter wi) (hk:scope.kind=.function) (hk0:sc0.kind=.function)
  (hnames:(scope.names.all fun x=>x.2 != .local||scope.names.lookup x.1==some .local)=true) (hcell:(scope.names.all fun x=>x.2 != .cell)=true)
  (hfree:(scope.names.all fun x=>x.2 != .free||sc0.names.lookup x.1==some .cell)=true)
  (hfr:(fr.all fun p=>(sc0.names.lookup p.1==some .cell&&scope.names.lookup p.1==some .free)&&N0[p.2]?==some p.1)=true)
  (hg:∀cl C s3 H2 ex,JG (compCx X (tn++fr.map (·.1)) scope cl C s3 H2 ex) target g) (hu:∀cl C s3 H2 ex,JTs (compCx X (tn++fr.map (·.1)) scope cl C s3 H2 ex) ifs ut)
  (he:∀cl C s3 H2 ex,JE (compCx X (tn++fr.map (·.1)) scope cl C s3 H2 ex) elt we)
  (hs:∀x,foldedSetIterable iter X.env x=pure x) {pos':Pos} {pins:List (Addr×Obj)} {s:Shared} {σ:St} {H:Hp} {QQ:Value->Shared->Prop} {use:Option (Value->Sem Unit)} (I:Inv X pins σ H s)
  {τ:List Slot} {Q0:T->Prop} (R0:RepSt X.K X.H₀ H σ τ) (hw:wComp wi g ut we tn.length (fr.map (·.2)) τ Q0)
  (hend:∀(s6:Shared)(H6:Hp)(D C:Addr)(m6:Str->Option Value)(t:T)(f:Flow),Inv X pins σ H6 s6->FpOk X pins H6 C->s6.heap.Ns C m6->Same H H6->Rep X.K H6 t (.ref D)->Q0 t->(∃(H5:Hp) (o:Obj) (vs:List V) (ts:List T),H6=upd H5 D (.frz o (.lst vs))/\H5 D=none/\Same H H5/\t=.lst ts/\Reps X.K H5 ts vs)->compPost (model X.prog X.w) X.A X.xe use QQ (.ref D) C (.ok f) s6) :
  wpAny (model X.prog X.w) X.A (comprehension (.ListComp elt [⟨target,iter,ifs,0⟩] scope pos) scope X.env pos' (newList []) false (eval iter X.env) use) QQ X.xe s:=by
 have hkindOf:∀x,X.env.kindOf x=sc0.names.lookup x:=fun x=>by show X.env.scope.names.lookup x=_;rw[hsc]
 have hfree':∀x∈scope.names,x.2=.free->X.env.kindOf x.1=some .cell:=fun x hx hf=>by
  have:=List.all_eq_true.mp hfree x hx
  rw[hkindOf]
  simpa [hf] using this
 have hcell':∀x∈scope.names,x.2 ≠ .cell:=fun x hx=>by
  have:=List.all_eq_true.mp hcell x hx
  simpa using this
 have hfN:∀p∈fr,X.N[p.2]?=some p.1:=fun p hp=>by
  have:=List.all_eq_true.mp hfr p hp
  rw[hN0]
  simp only[Bool.and_eq_true,beq_iff_eq]at this
  exact this.2
 have hfr':∀p∈fr,X.env.kindOf p.1=some .cell/\scope.names.lookup p.1=some .free:=fun p hp=>by
  have:=List.all_eq_true.mp hfr p hp
  rw[hkindOf]
  simp only[Bool.and_eq_true,beq_iff_eq]at this
  exact this.1
 obtain⟨cl,hclos,p1,p3⟩:=closureFor_of (scope:=scope) (env:=X.env) fun x hx hf=>I.ok.has x.1 (.inl (hfree' x hx hf))
 refine wpAny_comprehension_free (use:=use) rfl hs hclos hk (fun x hx hl=>?_) ?_
 ·have:=List.all_eq_true.mp hnames x hx
  simpa [hl] using this
 refine thn (hi pins s σ H (fun J H1=>∃ts,Same H H1/\WkS X.K J ts H1/\ts.length<=1000/\compT g ut we ts [] (List.replicate tn.length Slot.no++(fr.map (·.2)).map fun i=>hide (sget τ i)) fun rs=>Q0 (.lst rs)) I
  ⟨τ,_,R0,hw,fun ts J H' S wk q=>⟨ts,S,wk,q.1,q.2⟩⟩) fun v s1 h1=>thn h1 fun itv s2 h2=>?_
 obtain⟨it,fp,tn',J,H2,rfl,I2,Tn,st2,f2,ts,S2,wk,hlen,q⟩:=h2
 refine wpAny_newObj_type (wpAny_newFunctionEnv hcell' (by intro y hy;simp at hy) (fun h4 hns hsb=>?_) hk)
 dsimp only at hns hsb ⊢
 have hDn:H2 s2.heap.objs.size=none:=I2.hok.fresh (Nat.le_refl _)
 have I3:Inv X pins σ H2 {s2 with heap:=s2.heap.push {cls:=.type "list", dict:=none,data:=.seq ([]:List Value).toArray} }:=I2.kept (t':=s2.toks) fun b u e=>Heap.get?_push_of_some _ e
 have hsz:(s2.heap.push {cls:=.type "list", dict:=none,data:=.seq ([]:List Value).toArray}).objs.size=s2.heap.objs.size + 1:=Heap.size_push ..
 have hkeep:∀b o,(s2.heap.push {cls:=.type "list", dict:=none,data:=.seq ([]:List Value).toArray}).get? b=some o->h4.get? b=some o:=fun b o e=>hsb.extBut b o (Nat.ne_of_lt (Heap.lt_size e)) (Heap.get?_push_of_some _ e)
 have hDat:h4.get? s2.heap.objs.size=some {cls:=.type "list", dict:=none,data:=.seq ([]:List Value).toArray}:=hkeep _ _ (Heap.get?_push_size _ rfl)
 have fpD:∀b∈s2.heap.objs.size::fp,FpOk X pins H2 b:=fun b hb=>by
  rcases List.mem_cons.mp hb with rfl|hb
  ·exact I2.fpOk (Nat.le_refl _) hDn
  ·exact f2 b hb
 have ltD:∀b∈fp,b < s2.heap.objs.size:=fun b hb=>by
  obtain⟨o,e,_⟩:=Tn.obj _ _ st2 b hb
  exact Heap.lt_size e
 have ltD':∀b∈s2.heap.objs.size::fp,b < (s2.heap.push {cls:=.type "list", dict:=none,data:=.seq ([]:List Value).toArray}).objs.size:=fun b hb=>by
  rw[hsz]
  rcases List.mem_cons.mp hb with rfl|hb
  ·exact Nat.lt_succ_self _
  ·exact Nat.lt_succ_of_lt (ltD b hb)
 have hhas:∀x,((relabel scope X.env).names.lookup x=some .cell∨(relabel scope X.env).names.lookup x=some .free)->∃c,cl.lookup x=some c:=fun x hx=>by
  have z:∃k',(relabel scope X.env).names.lookup x=some k'/\(k'=.cell∨k'=.free):=by
   rcases hx with hx|hx
   ·exact⟨_,hx,.inl rfl⟩
   ·exact⟨_,hx,.inr rfl⟩
  obtain⟨k',e,hk'⟩:=z
  obtain⟨k,hm,hkk⟩:=relabel_mem e
  have hf:k=.free:=by
   rcases hkk with rfl|⟨h,_⟩
   ·rcases hk' with rfl|rfl
    ·exact absurd rfl (hcell' _ hm)
    ·rfl
   ·exact h
  subst hf
  exact p3 (x,.free) hm rfl
 obtain⟨m3,hn3,hl3⟩:=I3.loc
 have J4:Inv (compCx X (tn++fr.map (·.1)) scope cl (s2.heap.push {cls:=.type "list", dict:=none,data:=.seq ([]:List Value).toArray}).objs.size {s2 with heap:=s2.heap.push {cls:=.type "list", dict:=none,data:=.seq ([]:List Value).toArray} } H2 (s2.heap.objs.size::fp)) []
   (slotsOf σ tn.length fr) H2 {s2 with heap:=h4,toks:=s2.toks + ([]:List (Str×Value)).length}:=by
  refine comp_start I3 hc hk (Nat.le_refl _) p1 hhas fpD ltD' rfl I2.bare hkeep hns (fun i x v h1 h2=>?_) (by simp[slotsOf])
  unfold slotsOf at h2
  by_cases hi:i < tn.length
  ·rw[List.getElem?_append_left (by simpa using hi),List.getElem?_replicate]at h2
   split at h2<;>cases h2
  ·rw [List.getElem?_append_right (by simpa using hi),List.length_replicate,List.getElem?_map]at h2
   rw[List.getElem?_append_right (by omega),List.getElem?_map]at h1
   cases ep:fr[i - tn.length]? with
   | none=>rw[ep]at h1;cases h1
   | some p =>
    rw[ep]at h1 h2
    have h1':p.1=x:=by simpa using h1
    have h2':(σ[p.2]?).getD none=some v:=by simpa using h2
    have h2'':σ[p.2]?=some (some v):=by
     cases e:σ[p.2]? with
     | none=>rw[e]at h2';cases h2'
     | some z=>rw[e]at h2';exact congrArg some h2'
    have hp:p∈fr:=List.mem_of_getElem? ep
    obtain⟨k1,k2⟩:=hfr' p hp
    subst h1'
    obtain⟨u,ru,lk⟩:=hl3 p.2 p.1 v (hfN p hp) h2'' (.inr (.inl k1))
    refine⟨u,ru,.inr ⟨.inl ?_,?_⟩⟩
    ·exact relabel_free (by rw[hsc];exact hk0) k2 k1
    ·rcases lk with ⟨z,_⟩|⟨_,c,e,o,ho,hd⟩
     ·rw[k1]at z;cases z
     ·obtain⟨c',e'⟩:=p3 (p.1,.free) (PySem.mem_of_lookup k2) rfl
      have:=p1 _ _ e'
      rw[e]at this
      cases this
      exact⟨c,e',o,hkeep c o ho,hd⟩
 have R4:RepSt X.K H2 H2 (slotsOf σ tn.length fr) (List.replicate tn.length Slot.no++(fr.map (·.2)).map fun i=>hide (sget τ i)):=repSt_comp tn.length fr R0 S2
 have ne:(s2.heap.objs.size:Addr)∉fp:=fun z=>absurd (ltD _ z) (Nat.lt_irrefl _)
 have st4:tn' 0 h4:=Tn.keep _ _ _ st2 fun b hb o e=>hkeep b o (Heap.get?_push_of_some _ e)
 have lp:=comp_loop (scope:=scope) (H2:=H2) (s2:=s2) (X:=X) (X':=compCx X (tn++fr.map (·.1)) scope cl (s2.heap.push {cls:=.type "list", dict:=none,data:=.seq ([]:List Value).toArray}).objs.size {s2 with heap:=s2.heap.push {cls:=.type "list", dict:=none,data:=.seq ([]:List Value).toArray} } H2 (s2.heap.objs.size::fp)) (h3:=s2.heap.push {cls:=.type "list", dict:=none,data:=.seq ([]:List Value).toArray}) (pins:=pins) (s4:={s2 with heap:=h4,toks:=s2.toks + ([]:List (Str×Value)).length}) (use:=use) (QQ:=QQ) (iter:=iter) (pos:=pos) (hg _ _ _ _ _) (hu _ _ _ _ _) (he _ _ _ _ _) rfl rfl rfl rfl rfl rfl rfl rfl rfl rfl rfl rfl hsz (fun b o e=>Heap.get?_push_of_some _ e) rfl I2 f2 Tn ne S2 wk hlen J4 R4 st4 (fun b hb=>(fpD b hb).1) hDat q (fun H6 h=>I3.fpOk (Nat.le_refl _) h) hend
 exact codeAny_compStart_list lp (Tn.self _ 0 _ _ _ st4 lp)
theorem jcomp{elt target iter:Expr}{ifs:List Expr}{scope sc0:Scope}{tn N0:List Str}{fr:List (Str×Nat)}{wi:WI}{g:TGt}{ut:WT}{we:WE}(hsc:X.env.scope=sc0)(hN0:X.N=N0)(hc:X.calm=true)
  (hi:JI X target iter wi) (hk:scope.kind=.function) (hk0:sc0.kind=.function)
  (hnames:(scope.names.all fun x=>x.2 != .local||scope.names.lookup x.1==some .local)=true) (hcell:(scope.names.all fun x=>x.2 != .cell)=true)
  (hfree:(scope.names.all fun x=>x.2 != .free||sc0.names.lookup x.1==some .cell)=true)
  (hfr:(fr.all fun p=>(sc0.names.lookup p.1==some .cell&&scope.names.lookup p.1==some .free)&&N0[p.2]?==some p.1)=true)
  (hg:∀cl C s3 H2 ex,JG (compCx X (tn++fr.map (·.1)) scope cl C s3 H2 ex) target g) (hu:∀cl C s3 H2 ex,JTs (compCx X (tn++fr.map (·.1)) scope cl C s3 H2 ex) ifs ut)
  (he:∀cl C s3 H2 ex,JE (compCx X (tn++fr.map (·.1)) scope cl C s3 H2 ex) elt we)
  (hs:∀x,foldedSetIterable iter X.env x=pure x:=by intro _;rfl):JE X (.ListComp elt [⟨target,iter,ifs,0⟩] scope pos) (wComp wi g ut we tn.length (fr.map (·.2))):=by
 intro pins s σ H Q I hw
 obtain⟨τ,Q0,R0,hw,kk⟩:=hw
 rw[eval_ListComp]
 refine comp_core hsc hN0 hc hi.c hk hk0 hnames hcell hfree hfr hg hu he hs (pos':=_) (use:=none) I R0 hw fun s6 H6 D C m6 t f I6 fp hn S r q _=>?_
 refine⟨m6,hn,fun h7 hs7=>?_⟩
 obtain⟨g1,g2,g3,g4,g5,g6⟩:=fp
 exact⟨.ref D,H6,I6.turned (t':=s6.toks) (it:=C) (fun b o hb e=>(hs7.2 b hb).trans e) g1 g2 g4 g5 g6,rfl,kk _ _ _ S r q⟩
theorem jsetc{elt target iter:Expr}{ifs:List Expr}{scope sc0:Scope}{tn N0:List Str}{fr:List (Str×Nat)}{wi:WI}{g:TGt}{ut:WT}{we:WE}{i:Nat}{x:Str}{pos' spos:Pos}(hN:X.N.Nodup)(hiN:X.N[i]?=some x)(hx:Loc X.env.scope x)
  (hsc:X.env.scope=sc0) (hN0:X.N=N0) (hc:X.calm=true)
  (hi:JI X target iter wi) (hk:scope.kind=.function) (hk0:sc0.kind=.function)
  (hnames:(scope.names.all fun x=>x.2 != .local||scope.names.lookup x.1==some .local)=true) (hcell:(scope.names.all fun x=>x.2 != .cell)=true)
  (hfree:(scope.names.all fun x=>x.2 != .free||sc0.names.lookup x.1==some .cell)=true)
  (hfr:(fr.all fun p=>(sc0.names.lookup p.1==some .cell&&scope.names.lookup p.1==some .free)&&N0[p.2]?==some p.1)=true)
  (hg:∀cl C s3 H2 ex,JG (compCx X (tn++fr.map (·.1)) scope cl C s3 H2 ex) target g) (hu:∀cl C s3 H2 ex,JTs (compCx X (tn++fr.map (·.1)) scope cl C s3 H2 ex) ifs ut)
  (he:∀cl C s3 H2 ex,JE (compCx X (tn++fr.map (·.1)) scope cl C s3 H2 ex) elt we)
  (hs:∀x,foldedSetIterable iter X.env x=pure x:=by intro _;rfl)
  (hsw:swapsWith (.ListComp elt [⟨target,iter,ifs,0⟩] scope pos) (some (.Name x pos')) spos.line X.env=pure true:=by rfl)
  (hf:X.fn x=true∨X.env.scope.names.lookup x=some .local:=by first|exact .inl rfl|exact .inr rfl|assumption) :
  JS X (.Assign [.Name x pos'] (.ListComp elt [⟨target,iter,ifs,0⟩] scope pos) spos) (sSet i (wComp wi g ut we tn.length (fr.map (·.2)))):=by
 intro pins s σ H D I ⟨τ,D0,R0,hw,k,_⟩
 rw[exec_Assign_Name_used _ _ _ _ hsw]
 refine wpAny_bind (wpAny_standAt (wpAny_bind ?_))
 rw[arm_evalThenUse_ListComp]
 dsimp only
 refine wpAny_bind (wpAny_mono (comp_core (QQ:=fun _ s'=>SP X pins D .next s') hsc hN0 hc hi.c hk hk0 hnames hcell hfree hfr hg hu he hs (use:=some (assign (.Name x pos') X.env)) I R0 hw fun s6 H6 Da C m6 t f I6 fp hn S r q _=>?_) (fun _ s' h=>wpAny_pure (wpAny_pure h)) fun _ _ z=>z)
 obtain⟨oC,es,ep,hoC,hdC,hrC⟩:=id hn
 have Ip:=I6.pinned (fp:=[C]) (fun b hb=>by rw[List.mem_singleton.mp hb];exact fp) fun b hb=>by
  rw[List.mem_singleton.mp hb]
  exact⟨oC,hoC,fun v z=>by rw[hdC]at z;cases z⟩
 have gn:=pg_name (pos:=pos') hN hiN hx hf _ s6 σ H6 (.ref Da) (.ref Da) (fun σ' H'=>σ'=σ.set i (some (.ref Da))/\H'=H6) Ip rfl ⟨rfl,rfl⟩
 refine wpAny_mono gn (fun _ s7 h7=>?_) fun _ _ z=>z
 obtain⟨σ7,H7,I7,rfl,rfl⟩:=h7
 have pC:=(I7.pin (C,oC) (List.mem_append_right _ (List.mem_append_right _ (mem_pinsAt (List.mem_singleton.mpr rfl) hoC)))).1
 refine⟨m6,⟨oC,es,ep,pC,hdC,hrC⟩,fun h8 hs8=>?_⟩
 obtain⟨g1,g2,g3,g4,g5,g6⟩:=fp
 have I8:Inv X pins (σ.set i (some (.ref Da))) H7 s7:=I7.pins_of fun p hp=>I7.pin p (List.mem_append_right _ (List.mem_append_left _ hp))
 exact⟨_,H7,I8.turned (t':=s7.toks) (it:=C) (fun b o hb e=>(hs8.2 b hb).trans e) g1 g2 g4 g5 g6,k _ _ H7 (.of S) ((R0.mono S).put r) q⟩
end
end TL
end
section
namespace TL
open PySem PySem.Spec PyProof.Rows L2
def SeqIt(h:Heap)(it l:Addr)(k:Nat)(xs:Array Value):Prop:=(h.IsListIter it l k/\h.IsList l xs)∨(h.IsTupleIter it l k/\h.IsTuple l xs)
theorem SeqIt.keep{h h':Heap}{it l:Addr}{k:Nat}{xs:Array Value}(x:SeqIt h it l k xs)(q:∀b o,b=it∨b=l->h.get? b=some o->h'.get? b=some o):SeqIt h' it l k xs:=by
 rcases x with ⟨⟨o,e,r⟩,p,e2,r2⟩|⟨⟨o,e,r⟩,p,e2,r2⟩
 ·exact .inl ⟨⟨o,q _ _ (.inl rfl) e,r⟩,p,q _ _ (.inr rfl) e2,r2⟩
 ·exact .inr ⟨⟨o,q _ _ (.inl rfl) e,r⟩,p,q _ _ (.inr rfl) e2,r2⟩
theorem SeqIt.lt{h:Heap}{it l:Addr}{k:Nat}{xs:Array Value}(x:SeqIt h it l k xs):it < h.objs.size/\l < h.objs.size:=by
 rcases x with ⟨⟨o,e,_⟩,p,e2,_⟩|⟨⟨o,e,_⟩,p,e2,_⟩
 ·exact⟨Heap.lt_size e,Heap.lt_size e2⟩
 ·exact⟨Heap.lt_size e,Heap.lt_size e2⟩
theorem SeqIt.ne{h:Heap}{it l:Addr}{k:Nat}{xs:Array Value}(x:SeqIt h it l k xs):l≠it:=by
 rintro rfl
 rcases x with ⟨⟨o,e,c,d⟩,p,e2,c2,n,d2⟩|⟨⟨o,e,c,d⟩,p,e2,c2,n,d2⟩
 ·rw[e]at e2;cases e2;rw[d]at d2;cases d2
 ·rw[e]at e2;cases e2;rw[d]at d2;cases d2
theorem SeqIt.obj{h:Heap}{it l:Addr}{k:Nat}{xs:Array Value}(x:SeqIt h it l k xs):∃o,h.get? it=some o/\∀v,o.data ≠ .cell v:=by
 rcases x with ⟨⟨o,e,c,d⟩,_⟩|⟨⟨o,e,c,d⟩,_⟩
 ·exact⟨o,e,fun v z=>by rw[d]at z;cases z⟩
 ·exact⟨o,e,fun v z=>by rw[d]at z;cases z⟩
section
variable {prog:Program} {w:World} {A:Around} {E:Value->Shared->Prop} {s:Shared}
structure Zp(h:Heap)(z TI TO i j l m:Addr)(f:Value)(k:Nat)(xs ys:Array Value):Prop where
 z:IsZip h z TI TO f
 ti:IsPair h TI (.ref i) (.ref j)
 to:∃a b,IsPair h TO a b
 one:SeqIt h i l k xs
 two:SeqIt h j m k ys
structure Zd(z TI TO i j l m:Addr):Prop where
 nd:[z,TI,TO,i,j].Nodup
 l:l∉[z,TI,TO,i,j]
 m:m∉[z,TI,TO,i,j]
theorem Zd.all{z TI TO i j l m:Addr}(d:Zd z TI TO i j l m):(z≠TI/\z≠TO/\z≠i/\z≠j)/\(TI≠TO/\TI≠i/\TI≠j)/\(TO≠i/\TO≠j)/\i≠j/\(l≠z/\l≠TI/\l≠TO/\l≠i/\l≠j)/\(m≠z/\m≠TI/\m≠TO/\m≠i/\m≠j):=by
 obtain⟨a,b,c⟩:=d
 simp only[List.nodup_cons,List.mem_cons,List.not_mem_nil,or_false,not_or,List.nodup_nil,not_false_eq_true,and_true]at a b c
 exact⟨⟨a.1.1,a.1.2.1,a.1.2.2.1,a.1.2.2.2⟩,⟨a.2.1.1,a.2.1.2.1,a.2.1.2.2⟩,⟨a.2.2.1.1,a.2.2.1.2⟩,a.2.2.2,⟨b.1,b.2.1,b.2.2.1,b.2.2.2.1,b.2.2.2.2⟩,c.1,c.2.1,c.2.2.1,c.2.2.2.1,c.2.2.2.2⟩
end
end TL
end
section
namespace TL
open PySem PySem.Spec PyProof.Rows L2
def SeqK(h:Heap)(c:Bool)(l:Addr)(xs:Array Value):Prop:=match c with|true=>h.IsList l xs|false=>h.IsTuple l xs
def ItK(h:Heap)(c:Bool)(it l:Addr)(k:Nat):Prop:=match c with|true=>h.IsListIter it l k|false=>h.IsTupleIter it l k
theorem SeqK.lt{h:Heap}{c:Bool}{l:Addr}{xs:Array Value}(x:SeqK h c l xs):l < h.objs.size:=by
 cases c
 ·obtain⟨o,e,_⟩:=x;exact Heap.lt_size e
 ·obtain⟨o,e,_⟩:=x;exact Heap.lt_size e
theorem SeqK.push{h:Heap}{c:Bool}{l:Addr}{xs:Array Value}(x:SeqK h c l xs)(o:Obj):SeqK (h.push o) c l xs:=by
 cases c
 ·exact Heap.IsTuple.push x o
 ·exact Heap.IsList.push x o
theorem ItK.get{h:Heap}{c:Bool}{it l:Addr}{k:Nat}(x:ItK h c it l k):∃o,h.get? it=some o/\∀v,o.data ≠ .cell v:=by
 cases c
 ·obtain⟨o,e,c,d⟩:=x;exact⟨o,e,fun v z=>by rw[d]at z;cases z⟩
 ·obtain⟨o,e,c,d⟩:=x;exact⟨o,e,fun v z=>by rw[d]at z;cases z⟩
theorem ItK.keep{h h':Heap}{c:Bool}{it l:Addr}{k:Nat}(x:ItK h c it l k)(q:∀o,h.get? it=some o->h'.get? it=some o):ItK h' c it l k:=by
 cases c
 ·obtain⟨o,e,r⟩:=x;exact⟨o,q o e,r⟩
 ·obtain⟨o,e,r⟩:=x;exact⟨o,q o e,r⟩
theorem ItK.seq{h:Heap}{c:Bool}{it l:Addr}{k:Nat}{xs:Array Value}(x:ItK h c it l k)(y:SeqK h c l xs):SeqIt h it l k xs:=by
 cases c
 ·exact .inr ⟨x,y⟩
 ·exact .inl ⟨x,y⟩
theorem SeqIt.kind{h:Heap}{c:Bool}{it l:Addr}{k:Nat}{xs ys:Array Value}(x:SeqIt h it l k xs)(y:SeqK h c l ys):ItK h c it l k:=by
 rcases x with ⟨a,o,e,c1,_⟩|⟨a,o,e,c1,_⟩
 ·cases c
  ·obtain⟨o',e',c2,_⟩:=y
   rw[e]at e';cases e';rw[c1]at c2;simp at c2
  ·exact a
 ·cases c
  ·exact a
  ·obtain⟨o',e',c2,_⟩:=y
   rw[e]at e';cases e';rw[c1]at c2;simp at c2
section
variable {prog:Program} {w:World} {A:Around} {E:Value->Shared->Prop} {s:Shared}
end
section
variable {prog:Program} {w:World} {A:Around} {E:Value->Shared->Prop} {s:Shared}
end
def SqK(K:PySem.W.Frag)(H:Hp)(c:Bool)(a:Addr)(xs:List V):Prop:=match c with|true=>SqF K H a xs|false=>SqT K H a xs
theorem SqK.kp{K:PySem.W.Frag}{H H':Hp}{c:Bool}{a:Addr}{xs:List V}(h:SqK K H c a xs)(k:Kp H H'):SqK K H' c a xs:=by
 cases c
 ·exact sqT_kp k h
 ·exact sqF_kp k h
structure Zt(h:Heap)(z TI TO i j l m:Addr)(c d:Bool)(k:Nat):Prop where
 z:IsZip h z TI TO .none
 ti:IsPair h TI (.ref i) (.ref j)
 to:∃a b,IsPair h TO a b
 one:ItK h c i l k
 two:ItK h d j m k
def seqOf:T->Option (List T)
 | .tup ts=>some ts
 | .lst ts=>some ts
 | _=>none
def zipT:List T->List T->List T
 | x::xs,y::ys=>.tup [x,y]::zipT xs ys
 | _,_=>[]
def iZip(ws:WA):WI:=fun τ Q=>ws τ fun ts=>match ts with
 | [a,b]=>(match seqOf a,seqOf b with|some xs,some ys=>Q (zipT xs ys)|_,_=>False)
 | _=>False
section
variable {X:Cx} {a b:Expr} {ws:WA} {pos:Pos}
end
end TL
end
section
namespace TL
open PySem PySem.Spec PyProof.Rows L2
section
variable {X:Cx}
def intsOf:List T->Option (List Int)
 | []=>some []
 | .int i::r=>(intsOf r).map (i :: ·)
 | _=>none
def rSumT(ts:List T)(Q:T->Prop):Prop:=match ts with
 | [.lst xs]=>(match intsOf xs with|some ns=>Q (.int ns.sum)|none=>False)
 | _=>False
def boolsOf:List T->Option (List Bool)
 | []=>some []
 | .bl i::r=>(boolsOf r).map (i :: ·)
 | _=>none
def rAllT(ts:List T)(Q:T->Prop):Prop:=match ts with
 | [.lst xs]=>(match boolsOf xs with|some bs=>Q (.bl (bs.all id))|none=>False)
 | _=>False
theorem upd_upd{H:Hp}{p:Addr}{a b:HO}:upd (upd H p a) p b=upd H p b:=by
 funext c
 by_cases h:c=p
 ·subst h;rw[upd_same,upd_same]
 ·rw[upd_ne h,upd_ne h,upd_ne h]
theorem call_listF:CallR X (.type "list") (fun xs H Q=>∃p ys,xs=[.ref p]/\(SqL X.K H p ys∨SqT X.K H p ys)/\∀l o,H l=none->Q (.ref l) (upd H l (.frz o (.lst ys)))):=by
 intro pins s σ H xs us Q I r h
 obtain⟨p,ys,e,hq,q⟩:=h
 refine thn (call_list_of pins s σ H xs us (fun v H'=>∃l,v=.ref l/\H l=none/\H'=upd H l (.lst ys)) I r ⟨p,ys,e,hq,fun l hl=>⟨l,rfl,hl,rfl⟩⟩) fun u s1 ⟨v,H1,I1,rv,l,e1,hl,e2⟩=>?_
 subst e1 e2
 obtain⟨o,I2⟩:=Inv.freeze I1 (upd_same (o:=.lst ys))
 rw[upd_upd]at I2
 exact⟨_,_,I2,rv,q l o hl⟩
def rListT(ts:List T)(Q:T->Prop):Prop:=match ts with
 | [.tup xs]=>Q (.lst xs)
 | [.lst xs]=>Q (.lst xs)
 | _=>False
theorem ty_list:BlR X (.type "list") rListT:=by
 refine⟨_,call_listF,fun ts vs H Q0 Q r q k=>?_⟩
 have fin:∀{xs:List T}{ys:List V},Q0 (.lst xs)->Reps X.K H xs ys->∀l o,H l=none->Q (.ref l) (upd H l (.frz o (.lst ys))):=fun q rr l o hl =>
  k _ _ _ (same_new hl _) (rep_lst.mpr ⟨l,_,rfl,.inl ⟨o,upd_same⟩,rr.kp (.of (same_new hl _))⟩) q
 unfold rListT at q
 split at q
 ·obtain⟨v,rfl,r1⟩:=reps1 r
  rw[rep_tup]at r1
  obtain⟨p,ys,rfl,sq,rr⟩:=r1
  exact⟨p,ys,rfl,.inr sq,fin q rr⟩
 ·obtain⟨v,rfl,r1⟩:=reps1 r
  rw[rep_lst]at r1
  obtain⟨p,ys,rfl,sq,rr⟩:=r1
  exact⟨p,ys,rfl,.inl sq.sq,fin q rr⟩
 ·exact q.elim
end
end TL
end
section
namespace TL
open PySem PySem.Spec PyProof.Rows L2
section
variable {X:Cx} {a b c e:Expr} {es:List Expr} {wa wb wc w:WE} {ws:WA} {pos:Pos}
def rSeqCat(K:PySem.W.Frag):R2:=fun x y H Q=>∃a b xs ys,x=.ref a/\y=.ref b/\xs.length + ys.length<=sizeLine ∧
  ((SqL K H a xs/\SqL K H b ys/\∀p o,H p=none->Q (.ref p) (upd H p (.frz o (.lst (xs++ys))))) ∨
   (SqT K H a xs/\SqT K H b ys/\(xs=[]->Q (.ref b) H)/\(xs≠[]->ys=[]->Q (.ref a) H)/\(xs≠[]->ys≠[]->∀p,H p=none->Q (.ref p) (upd H p (.tup (xs++ys))))))
theorem op_seqCat:OpR X (binaryOp .Add) (rSeqCat X.K):=by
 intro pins s σ H x y v u Q I rx ry h
 obtain⟨a,b,xs,ys,rfl,rfl,hz,h⟩:=h
 cases rx
 cases ry
 rcases h with ⟨ha,hb,q⟩|⟨ha,hb,q0,q1,q2⟩
 ·obtain⟨its,r1,p1,_⟩:=I.list ha
  obtain⟨its2,r2,p2,_⟩:=I.list hb
  have hl1:=r1.length
  have hl2:=r2.length
  obtain⟨⟨cls,dd,data,sl⟩,ho,hc,n,hd⟩:=p1.isList
  obtain⟨⟨cls2,dd2,data2,sl2⟩,ho2,hc2,n2,hd2⟩:=p2.isList
  simp only at hc hd hc2 hd2
  subst hc hd hc2 hd2
  refine concat_meets ⟨_,ho,rfl⟩ ⟨_,ho2,rfl⟩ noFill_list_add seq_list_add PySem.F.slot_list_add PySem.F.entry_list_add (PySem.F.args_list_add_2 _ _) (list_addW a b its.toArray its2.toArray n n2 dd dd2 sl sl2 (by simp only[List.size_toArray];omega)) ⟨ho,ho2,?_⟩
  have e:its.toArray++its2.toArray=(its++its2).toArray:=by simp
  rw[e]
  have hf:H s.heap.objs.size=none:=I.hok.fresh (Nat.le_refl _)
  refine⟨.ref s.heap.objs.size,upd H s.heap.objs.size (.frz {cls:=.type "list", data:=.seq (its++its2).toArray} (.lst (xs++ys))),I.laid (t':=s.toks) (fun b u e=>Heap.get?_push_of_some _ e) (Nat.le_refl _) ?_,rfl,q _ _ hf⟩
  exact⟨Heap.get?_push_size _ rfl,by rw[List.length_append];exact hz,its++its2,0,r1.append r2,Heap.get?_push_size _ rfl⟩
 ·obtain⟨its,r1,p1,_⟩:=I.tuple ha
  obtain⟨its2,r2,p2,_⟩:=I.tuple hb
  by_cases hx:xs=[]
  ·subst hx
   have hi:its=[]:=r1.nil_iff.mpr rfl
   subst hi
   obtain⟨⟨cls,dd,data,sl⟩,ho,hc,n,hd⟩:=p1
   obtain⟨⟨cls2,dd2,data2,sl2⟩,ho2,hc2,n2,hd2⟩:=p2
   simp only at hc hd hc2 hd2
   subst hc hd hc2 hd2
   refine concat_meets ⟨_,ho,rfl⟩ ⟨_,ho2,rfl⟩ noFill_tuple_add seq_tuple_add PySem.F.slot_tuple_add PySem.F.entry_tuple_add (PySem.F.args_tuple_add_2 _ _) (tuple_addW0 a b _ _ n n2 dd dd2 sl sl2 rfl) ⟨ho,ho2,?_⟩
   exact⟨.ref b,H,I,rfl,q0 rfl⟩
  ·refine HT.cat_tup p1 p2 (fun z=>hx (r1.nil_iff.mp z)) (fun z=>⟨.ref a,H,I,rfl,q1 hx (r2.nil_iff.mp z)⟩) (fun z=>?_) (by rw[← r1.length,← r2.length];exact hz)
   refine⟨.ref s.heap.objs.size,_,I.laid (t':=s.toks) (o:=.tup (xs++ys)) (fun b ob q=>Heap.get?_push_of_some _ q) (Nat.le_refl _) ?_,rfl,q2 hx (fun w=>z (r2.nil_iff.mpr w)) _ (I.hok.fresh (Nat.le_refl _))⟩
   exact⟨by rw[List.length_append];exact hz,_,r1.append r2,IsTup.new _ _⟩
def rCatLT(x y:T)(Q:T->Prop):Prop:=match x,y with
 | .lst xs,.lst ys=>xs.length + ys.length<=1000/\Q (.lst (xs++ys))
 | .tup xs,.tup ys=>xs.length + ys.length<=1000/\Q (.tup (xs++ys))
 | _,_=>False
theorem b_cat:BR X .Add rCatLT:=by
 refine⟨_,op_seqCat,fun t1 t2 v1 v2 H Q0 Q r1 r2 q k=>?_⟩
 unfold rCatLT at q
 split at q
 ·rw[rep_lst]at r1 r2
  obtain⟨p,vs,rfl,sq,rr⟩:=r1
  obtain⟨p',vs',rfl,sq',rr'⟩:=r2
  exact⟨p,p',vs,vs',rfl,rfl,by rw[rr.length,rr'.length];exact few q.1,.inl ⟨sq.sq,sq'.sq,fun l o hl =>
   k _ _ _ (same_new hl _) (rep_lst.mpr ⟨l,_,rfl,.inl ⟨o,upd_same⟩,(rr.append rr').kp (.of (same_new hl _))⟩) q.2⟩⟩
 ·have e1:=r1
  have e2:=r2
  rw[rep_tup]at r1 r2
  obtain⟨p,vs,rfl,sq,rr⟩:=r1
  obtain⟨p',vs',rfl,sq',rr'⟩:=r2
  have z1:=rr.length
  have z2:=rr'.length
  refine⟨p,p',vs,vs',rfl,rfl,by rw[rr.length,rr'.length];exact few q.1,.inr ⟨sq,sq',fun hx=>?_,fun _ hy=>?_,fun _ _ l hl =>
   k _ _ _ (same_new hl _) (rep_tup.mpr ⟨l,_,rfl,SqT.of upd_same,(rr.append rr').kp (.of (same_new hl _))⟩) q.2⟩⟩
  ·subst hx
   rename_i xs ys
   have:xs=[]:=List.length_eq_zero_iff.mp (by simpa using z1.symm)
   subst this
   exact k _ _ H (.refl H) e2 q.2
  ·rename_i xs ys _
   subst hy
   have:ys=[]:=List.length_eq_zero_iff.mp (by simpa using z2.symm)
   subst this
   have q':=q.2
   rw[List.append_nil]at q'
   exact k _ _ H (.refl H) e1 q'
 ·exact q.elim
def rMin3T(ts:List T)(Q:T->Prop):Prop:=match ts with
 | [.int i,.int j,.int k]=>Q (.int (if j < i then (if k < j then k else j) else (if k < i then k else i)))
 | _=>False
end
end TL
end
section
namespace TL
open PySem PySem.Spec PyProof.Rows L2
section
variable {X:Cx} {a b c e:Expr} {es:List Expr} {wa wb wc w:WE} {ws:WA} {pos:Pos}
def cnt3(lo hi c:Int):Nat:=(Builtin.Range.rangeSize lo hi c).toNat
def range3T:Int->Int->Nat->List T
 | _,_,0=>[]
 | lo,c,n + 1=>.int lo::range3T (lo + c) c n
def iRange3(ws:WA):WI:=fun τ Q=>ws τ fun ts=>match ts with
 | [.int i,.int j,.int k]=>(-(2 ^ 30)<=i/\i < 2 ^ 30 /\ -(2 ^ 30)<=j/\j < 2 ^ 30/\0 < k/\k < 2 ^ 30)/\Q (range3T i k (cnt3 i j k))
 | _=>False
theorem Vals.reverse:∀{vs:List V}{us:List Value},Vals vs us->Vals vs.reverse us.reverse
 | _,_,.nil=>.nil
 | _,_,.cons r rr=>by
  rw[List.reverse_cons,List.reverse_cons]
  exact(Vals.reverse rr).append (.cons r .nil)
theorem Reps.reverse{K:PySem.W.Frag}{H:Hp}:∀{ts:List T}{vs:List V},Reps K H ts vs->Reps K H ts.reverse vs.reverse
 | [],vs,h=>by rw[reps_nil]at h;subst h;simp[reps_nil]
 | t::ts,vs,h=>by
  rw[reps_cons]at h
  obtain⟨v,r,rfl,a,b⟩:=h
  rw[List.reverse_cons,List.reverse_cons]
  exact(Reps.reverse b).append (.one a)
def wRev(wa ws:WE):WE:=fun τ Q=>wa τ fun x=>ws τ fun y=>match x,y with | .lst ts,.int i=>i=-1/\Q (.lst ts.reverse)|_,_=>False
end
end TL
end
section
namespace TL
open PySem PySem.Spec PyProof.Rows L2
section
variable {prog:Program} {w:World} {A:Around} {E:Value->Shared->Prop} {s:Shared}
end
section
variable {X:Cx} {a b c e:Expr} {es:List Expr} {wa wb wc w:WE} {ws:WA} {pos:Pos}
def wRevA(wa ws:WE):WE:=fun τ Q=>wa τ fun x=>ws τ fun y=>match x,y with | .tup ts,.int i=>i=-1/\Q (.tup ts.reverse) | .lst ts,.int i=>i=-1/\Q (.lst ts.reverse)|_,_=>False
abbrev WO:=List Slot->(Option Int->Prop)->Prop
def upO(K:PySem.W.Frag)(H0:Hp)(w:WO):TO:=fun σ H Q=>∃(τ:List Slot) (Q0:Option Int->Prop),RepSt K H0 H σ τ/\w τ Q0/\∀o H',Same H H'->Q0 o->Q o H'
def JO(X:Cx)(e:Option Expr)(w:WO):Prop:=PO X e (upO X.K X.H₀ w)
def wo0:WO:=fun _ Q=>Q none
def wo(wa:WE):WO:=fun τ Q=>wa τ fun x=>match x with | .int i=>Q (some i)|_=>False
theorem po_of{e:Option Expr}{t t':TO}(h:PO X e t)(f:∀σ H Q,t' σ H Q->t σ H Q):PO X e t':=fun pins s σ H Q I hw=>h pins s σ H Q I (f σ H Q hw)
theorem jo0:JO X none wo0:=po_of po_none fun σ H Q ⟨τ,Q0,R,hw,k⟩=>k _ H (.refl H) hw
theorem jo(h:JE X e wa):JO X (some e) (wo wa):=po_of (po_some h) fun σ H Q ⟨τ,Q0,R,hw,k⟩=>⟨τ,_,R,hw,fun t v H1 S1 r q=>by
 cases t<;>first|exact q.elim|skip
 exact⟨_,rep_int.mp r,k _ H1 S1 q⟩⟩
def cutT(ts:List T)(lo hi:Option Int):List T:=(ts.drop (HT.sIx ts.length 0 lo)).take (HT.sIx ts.length ts.length hi - HT.sIx ts.length 0 lo)
theorem cut_reps{K:PySem.W.Frag}{H:Hp}{ts:List T}{vs:List V}{lo hi:Option Int}(r:Reps K H ts vs):Reps K H (cutT ts lo hi) (cutV vs lo hi):=by
 unfold cutT cutV
 rw[r.length]
 exact(r.drop _).take _
def rSlTT(x:T)(lo hi:Option Int)(Q:T->Prop):Prop:=match x with
 | .tup ts=>¬ (HT.sIx ts.length 0 lo=0/\HT.sIx ts.length ts.length hi=ts.length)/\Q (.tup (cutT ts lo hi))
 | .lst ts=>Q (.lst (cutT ts lo hi))
 | _=>False
def wSl(wa:WE)(wl wh:WO):WE:=fun τ Q=>wa τ fun x=>wl τ fun lo=>wh τ fun hi=>rSlTT x lo hi Q
def rSlF(K:PySem.W.Frag):V->Option Int->Option Int->Hp->VK->Prop:=fun x lo hi H Q=>∃a xs,x=.ref a/\SqL K H a xs/\∀p o,H p=none->Q (.ref p) (upd H p (.frz o (.lst (cutV xs lo hi))))
theorem sl_listF:SlR X (rSlF X.K):=by
 intro pins s σ H x v vl vu lo hi sl Q I rx hs pl pu h
 obtain⟨a,xs,rfl,hx,q⟩:=h
 cases rx
 obtain⟨its,r,ht,hz⟩:=I.list hx
 have hlen:=r.length
 refine⟨"list", _,slot_list_getitem.lookup,ht.isList.typeIs,?_⟩
 refine wpAny_getItem_list_slice ht.isList hs pl pu .none (by simp) ?_ (by rw[List.size_toArray]<;>omega)
 rw[slicePick_cut,← hlen]
 refine⟨.ref s.heap.objs.size,_,I.laid (t':=s.toks) (o:=.frz {cls:=.type "list", data:=.seq ((its.drop (HT.sIx xs.length 0 lo)).take (HT.sIx xs.length xs.length hi - HT.sIx xs.length 0 lo)).toArray} (.lst (cutV xs lo hi))) (fun b ob q=>Heap.get?_push_of_some _ q) (Nat.le_refl _) ?_,rfl,q _ _ (I.hok.fresh (Nat.le_refl _))⟩
 exact⟨Heap.get?_push_size _ rfl,Nat.le_trans (cutV_length xs lo hi) hz,_,0,(r.drop (HT.sIx xs.length 0 lo)).take (HT.sIx xs.length xs.length hi - HT.sIx xs.length 0 lo),Heap.get?_push_size _ rfl⟩
theorem jsl{lo hi:Option Expr}{wl wh:WO}{p2:Pos}(ha:JE X e wa)(hl:JO X lo wl)(hh:JO X hi wh):JE X (.Subscript e (.Slice lo hi none p2) pos) (wSl wa wl wh):=pe_of (pe_slice (sl_listF.or sl_tup) ha hl hh) fun σ H Q ⟨τ,Q0,R,hw,k⟩ =>
 ⟨τ,_,R,hw,fun t v H1 S1 r1 q1=>⟨τ,_,R.mono S1,q1,fun l H2 S2 q2=>⟨τ,_,R.mono (S1.trans S2),q2,fun h H3 S3 q3=>by
  have r1':=r1.kp (.of (S2.trans S3))
  cases t<;>first|exact q3.elim|skip
  ·rename_i ts
   rw[rep_tup]at r1'
   obtain⟨p,vs,rfl,sq,rr⟩:=r1'
   refine .inr ⟨p,vs,rfl,sq,by rw[rr.length];exact q3.1,fun pp hp=>k _ _ _ (S1.trans (S2.trans (S3.trans (same_new hp _)))) (rep_tup.mpr ⟨pp,_,rfl,SqT.of upd_same,(cut_reps rr).kp (.of (same_new hp _))⟩) q3.2⟩
  ·rename_i ts
   rw[rep_lst]at r1'
   obtain⟨p,vs,rfl,sq,rr⟩:=r1'
   exact .inl ⟨p,vs,rfl,sq.sq,fun pp o hp=>k _ _ _ (S1.trans (S2.trans (S3.trans (same_new hp _)))) (rep_lst.mpr ⟨pp,_,rfl,.inl ⟨o,upd_same⟩,(cut_reps rr).kp (.of (same_new hp _))⟩) q3⟩⟩⟩⟩
end
end TL
end
section
namespace TL
open PySem PySem.Spec PyProof.Rows L2
open AutoSeq1 (wpAny_loadPart')
open MeetsSeq
end TL
end
section
namespace TL
open PySem PySem.Spec PyProof.Rows L2
def cNeE(x y:T)(Q:Bool->Prop):Prop:=match x,y with
 | .lst xs,.lst []=>Q (!xs.isEmpty)
 | _,_=>False
end TL
end
section
namespace TL
open PySem PySem.Spec PyProof.Rows L2
section
variable {X:Cx} {a b c e:Expr} {es:List Expr} {wa wb wc w:WE} {pos:Pos}
def wOIx(i:Nat)(wb:WE):WE:=fun τ Q=>match sget τ i with
 | .own ts=>wb τ fun y=>(match y with | .int k=>(match atI ts k with|some t=>Q t|none=>False)|_=>False)
 | _=>False
def wOLen(i:Nat):WE:=fun τ Q=>match sget τ i with | .own ts=>Q (.int ts.length)|_=>False
def tONe(i:Nat):WT:=fun τ Q=>match sget τ i with | .own ts=>Q (!ts.isEmpty)|_=>False
end
end TL
end
section
namespace TL
open PySem PySem.Spec PyProof.Rows L2
section
variable {X:Cx} {a b c e:Expr} {es:List Expr} {wa wb wc w:WE} {pos:Pos}
def rIxST(x y:T)(Q:T->Prop):Prop:=match x,y with
 | .str z,.int i=>z.length<=1000/\(match atI z.cps.toList i with|some c=>Q (.str ⟨#[c]⟩)|none=>False)
 | _,_=>False
def rAddST(x y:T)(Q:T->Prop):Prop:=match x,y with
 | .str i,.str j=>i.length + j.length<=1000/\Q (.str (i++j))
 | _,_=>False
theorem b_addS:BR X .Add rAddST:=⟨_,op_add_str,fun t1 t2 v1 v2 H Q0 Q r1 r2 q k=>by
 cases t1<;>cases t2<;>first|exact q.elim|skip
 rename_i i j
 obtain⟨hz,q⟩:i.length + j.length<=1000/\Q0 (.str (i++j)):=q
 exact⟨i,j,rep_str.mp r1,rep_str.mp r2,few hz,k _ _ H (.refl H) (rep_str.mpr rfl) q⟩⟩
def repS(z:Str)(n:Int):Str:=if n < 1 then Str.empty else if (n==1||z.length==0)=true then z else ⟨(List.replicate n.toNat z.cps).foldl (· ++ ·) #[]⟩
def rMulST(x y:T)(Q:T->Prop):Prop:=match x,y with
 | .str z,.int n=>z.length<=1/\0<=n/\n<=1000/\Q (.str (repS z n))
 | _,_=>False
def tTruT(wa:WE):WT:=fun τ Q=>wa τ fun x=>match x with | .bl k=>Q k | .lst ts=>Q (!ts.isEmpty)|_=>False
theorem ttru(ha:JE X a wa)(he:∀whole,isTrue a X.env whole=(do let v ← whole;standAt a.pos;holding [v] (truthy v)):=by intro _;rfl):JT X a (tTruT wa) :=
 pt_of (pt_truth ha he) fun σ H Q ⟨τ,Q0,R,hw,k⟩=>⟨τ,_,R,hw,fun t v H1 S1 r q=>by
  cases t<;>first|exact q.elim|skip
  ·rename_i b
   rw[rep_bl]at r
   subst r
   exact⟨b,rfl,k _ H1 S1 q⟩
  ·rename_i ts
   rw[rep_lst]at r
   obtain⟨p,vs,rfl,sq,rr⟩:=r
   refine⟨!vs.isEmpty,.inl ⟨vs,sq.sq,rfl⟩,?_⟩
   have e:(!vs.isEmpty)=!ts.isEmpty:=by
    have:=rr.length
    cases vs<;>cases ts<;>simp_all
   rw[e]
   exact k _ H1 S1 q⟩
def strsOf:List T->Option (List Str)
 | []=>some []
 | .str z::r=>(strsOf r).map (z :: ·)
 | _=>none
def cInT(x y:T)(Q:Bool->Prop):Prop:=match x,y with
 | .str z,.lst ts=>(match strsOf ts with|some zs=>Q (zs.contains z)|none=>False)
 | .int z,.lst ts=>(match intsOf ts with|some zs=>Q (zs.contains z)|none=>False)
 | _,_=>False
def cNotInT(x y:T)(Q:Bool->Prop):Prop:=match x,y with
 | .str z,.lst ts=>(match strsOf ts with|some zs=>Q (!zs.contains z)|none=>False)
 | .int z,.lst ts=>(match intsOf ts with|some zs=>Q (!zs.contains z)|none=>False)
 | _,_=>False
def rSortT(ts:List T)(Q:T->Prop):Prop:=match ts with
 | [.lst xs]=>(match strsOf xs with|some zs=>zs.length < 64/\∀us:List Str,us.Perm zs->sortedS us=true->Q (.lst (us.map T.str))|none=>False)
 | _=>False
end
end TL
end
section
namespace TL
open PySem PySem.Spec PyProof.Rows L2
section
variable {X:Cx}
end
end TL
namespace TL
open PySem PySem.Spec PyProof.Rows L2
section
end
end TL
namespace TL
open PySem PySem.Spec PyProof.Rows L2
section
variable {X:Cx}
end
end TL
namespace TL
open PySem PySem.Spec PyProof.Rows L2
section
variable {X:Cx}
end
end TL
end
section
namespace TL
open PySem PySem.Spec PyProof.Rows L2
section
variable {X:Cx} {a b c e:Expr} {es:List Expr} {wa wb wc w:WE} {pos:Pos}
end
end TL
end
section
namespace TL
open PySem PySem.Spec PyProof.Rows L2
section
variable {prog:Program} {w:World} {A:Around} {E:Value->Shared->Prop} {s:Shared}
end
section
variable {X:Cx} {a b e:Expr} {wa wb:WE} {pos:Pos}
def prT(p:Int×T):T:=.tup [.int p.1,p.2]
def wDIx(wa wb:WE):WE:=fun τ Q=>wa τ fun x=>∃ps:List (Int×T),x=.lst (ps.map prT)/\(ps.map (·.1)).Nodup/\wb τ fun y=>∃i t,y=.int i/\(i,t)∈ps/\Q t
def sDic(i:Nat)(wa:WE):WS:=fun D τ=>wa τ fun x=>∃ps:List (Int×T),x=.lst (ps.map prT)/\(ps.map (·.1)).Nodup/\D.nx (sput τ i (.dic ps))
def wDis(i:Nat)(wb:WE):WE:=fun τ Q=>match sget τ i with
 | .dic ps=>(ps.map (·.1)).Nodup/\wb τ fun y=>∃j t,y=.int j/\(j,t)∈ps/\Q t
 | _=>False
def tNinD(i:Nat)(wa:WE):WT:=fun τ Q=>wa τ fun y=>match y,sget τ i with | .int j,.dic ps=>Q (!decide (j∈ps.map (·.1)))|_,_=>False
def wRepL(ws:WA)(wb:WE):WE:=fun τ Q=>ws τ fun ts=>ts.length<=1000/\wb τ fun y=>∃k:Nat,y=.int k/\k<=1000/\ts.length * k<=1000/\Q (.lst (List.replicate k ts).flatten)
end
end TL
end
section
namespace TL
open PySem PySem.Spec PyProof.Rows L2
section
variable {X:Cx} {a b e:Expr} {wa wb:WE} {pos:Pos}
def rJoinT(sep:Str)(y:T)(Q:T->Prop):Prop:=match y with
 | .lst ts=>(match strsOf ts with|some zs=>(zs.map (·.length)).sum + zs.length * sep.length<=16777216/\Q (.str (Txt.join sep zs))|none=>False)
 | _=>False
def wJoin(wa wb:WE):WE:=fun τ Q=>wa τ fun x=>match x with
 | .str sep=>wb τ fun y=>rJoinT sep y Q
 | _=>False
def rStrT(ts:List T)(Q:T->Prop):Prop:=match ts with
 | [.str z]=>Q (.str z)
 | [.int i]=>i.natAbs < 2 ^ 64/\Q (.str (Str.ofString (toString i)))
 | _=>False
def rLenST(ts:List T)(Q:T->Prop):Prop:=match ts with
 | [.str z]=>z.length<=1000/\Q (.int z.length)
 | _=>False
def wSlS(wa:WE)(wl wh:WO):WE:=fun τ Q=>wa τ fun x=>wl τ fun lo=>wh τ fun hi=>match x with | .str z=>z.length<=1000/\Q (.str (Txt.slice z lo hi))|_=>False
def rAddAT(x y:T)(Q:T->Prop):Prop:=match x,y with
 | .int i,.int j=>Q (.int (i + j))
 | .tup xs,.tup ys=>xs.length + ys.length<=1000/\Q (.tup (xs++ys))
 | .lst xs,.lst ys=>xs.length + ys.length<=1000/\Q (.lst (xs++ys))
 | .str i,.str j=>i.length + j.length<=1000/\Q (.str (i++j))
 | _,_=>False
theorem b_addA:BR X .Add rAddAT:=by
 obtain⟨r1,o1,h1⟩:=b_add (X:=X)
 obtain⟨r2,o2,h2⟩:=b_cat (X:=X)
 obtain⟨r3,o3,h3⟩:=b_addS (X:=X)
 refine⟨_,o1.or (o2.or o3),fun t1 t2 v1 v2 H Q0 Q ra rb q k=>?_⟩
 unfold rAddAT at q
 split at q
 ·exact .inl (h1 _ _ v1 v2 H Q0 Q ra rb q k)
 ·exact .inr (.inl (h2 _ _ v1 v2 H Q0 Q ra rb q k))
 ·exact .inr (.inl (h2 _ _ v1 v2 H Q0 Q ra rb q k))
 ·exact .inr (.inr (h3 _ _ v1 v2 H Q0 Q ra rb q k))
 ·exact q.elim
theorem Inv.unfreeze{pins:List (Addr×Obj)}{σ:St}{H:Hp}{s:Shared}{p:Addr}{o:Obj}{xs:List V}(I:Inv X pins σ H s)(h:H p=some (.frz o (.lst xs)))(h0:X.H₀ p=none):Inv X pins σ (upd H p (.lst xs)) s:=by
 have nn:∀{b:Addr},H b=none->b≠p:=fun q z=>by subst z;rw[h]at q;cases q
 have n0:∀{b:Addr}{u:HO},X.H₀ b=some u->b≠p:=fun q z=>by subst z;rw[h0]at q;cases q
 refine⟨I.ok,I.os,I.bare,⟨I.base.keep,I.base.slot,fun b o q n hx=>?_,I.base.there,fun b ys q=>?_,fun b o u q=>?_,fun b ps q=>?_⟩,I.loc,I.cell,?_,fun x c q=>?_,fun q hq=>?_,fun b ob q=>?_,I.len⟩
 ·have:=I.base.free b o q n hx
  rw[upd_ne (nn this)];exact this
 ·rw[upd_ne (n0 q)];exact I.base.tups b ys q
 ·rw[upd_ne (n0 q)];exact I.base.frzs b o u q
 ·obtain⟨more,e⟩:=I.base.tbls b ps q
  exact⟨more,by rw[upd_ne (n0 q)];exact e⟩
 ·rw[upd_ne (nn I.free)];exact I.free
 ·rw[upd_ne (nn (I.freeC x c q))];exact I.freeC x c q
 ·obtain⟨a1,a2,a3⟩:=I.pin q hq
  exact⟨a1,by rw[upd_ne (nn a2)];exact a2,a3⟩
 ·by_cases hb:b=p
  ·subst hb
   rw[upd_same]at q
   cases q
   obtain⟨_,z⟩:=I.hok _ _ h
   exact z
  ·rw[upd_ne hb]at q
   refine(I.hok b ob q).stay (fun c v _ q=>q) (fun c q=>?_) fun c ys q=>?_
   ·rw[upd_ne (by rintro rfl;rw[h]at q;cases q)];exact q
   ·rw[upd_ne (by rintro rfl;rw[h]at q;cases q)];exact q
def sOwnC(i:Nat)(w:WE):WS:=fun D τ=>w τ fun t=>match t with | .lst ts=>D.nx (sput τ i (.own ts))|_=>False
end
end TL
end
section
namespace TL
open PySem PySem.Spec PyProof.Rows L2
section
variable {X:Cx} {a b:List Stmt} {t u:TS}
end
abbrev SpO:=List T->(List T->Prop)->Prop
def spO(K:PySem.W.Frag)(n:Nat)(S:SpO):Sp:=fun vs H Q _=>∃(ts:List T) (Q0:List T->Prop),vs.length=n/\Reps K H ts vs/\S ts Q0/\∀us p ws H',Same H H'->H p=none->H' p=some (.lst ws)->Reps K H' us ws->Q0 us->Q (.ref p) H'
structure FnO(P:Program)(w:World)(K:PySem.W.Frag)(mg:Str->Option Value)(base:Heap)(k:Nat)(f:Addr)(fd:FuncData)(ps:List Str)(S:SpO):Prop where
 ok:FnOk P w K mg base CX0 k f fd ps (spO K ps.length S)
 len:∀ts Q,S ts Q->ts.length=ps.length
def endO(i:Nat)(Q:List T->Prop):DT:={nx:=fun τ=>match sget τ i with | .own us=>Q us|_=>False,rt:=fun _=>False}
def CalO(P:Program)(w:World)(K:PySem.W.Frag)(mg:Str->Option Value)(base:Heap)(k:Nat)(x:Str)(ps:List Str)(S:SpO):Prop :=
 ∃f fd,FnO P w K mg base k f fd ps S/\Binds K fd ps []/\PySem.W.keepIn K (.ref f)=true/\mg x=some (.ref f)
theorem CalO.mk{P:Program}{w:World}{K:PySem.W.Frag}{mg:Str->Option Value}{base:Heap}{k:Nat}{x qual:Str}{ps:List Str}{S:SpO}{st:Stmt}{f:Addr}{fd:FuncData}(F:Fun K x qual st f fd)(m:mg x=some (.ref f))
  (b:Binds K fd ps []) (h:FnO P w K mg base k f fd ps S):CalO P w K mg base k x ps S:=⟨f,fd,h,b,F.kp,m⟩
abbrev frO(S:SpO):SpT:=fun ts Q=>S ts fun us=>Q (.lst us)
theorem FnO.frz{P:Program}{w:World}{K:PySem.W.Frag}{mg:Str->Option Value}{base:Heap}{k:Nat}{f:Addr}{fd:FuncData}{ps:List Str}{S:SpO}(F:FnO P w K mg base k f fd ps S):FnT P w K mg base k f fd ps (frO S):=by
 refine⟨⟨fun vs H Q E ⟨ts,Q0,e,_⟩=>e,fun A outer s H args us vs Q E hr e0 hb hv ⟨ts,Q0,e,r,hS,q⟩=>?_⟩,fun ts Q h=>F.len _ _ h⟩
 refine codeAny_mono (F.ok.run A outer s H args us vs (fun v H'=>∃zs p ws,v=.ref p/\Same H H'/\H p=none/\H' p=some (.lst ws)/\Reps K H' zs ws/\Q0 (.lst zs)) E hr e0 hb hv ⟨ts,_,e,r,hS,fun zs p ws H' S1 h0 hp rr n=>⟨zs,p,ws,rfl,S1,h0,hp,rr,n⟩⟩) fun res s' h=>?_
 cases res with
 | error e=>exact h
 | ok fl =>
  cases fl with
  | ret u =>
   obtain⟨v,H',os,bare,un,hok,rv,zs,p,ws,rfl,S1,h0,hp,rr,n⟩:=h
   obtain⟨z,its,m,rl,eh⟩:=hok p _ hp
   have K1:=Kp.write hp (.frz {cls:=.type "list", data:=.seq its.toArray m} (.lst ws))
   have ne:∀{b:Addr}{o:HO},H b=some o->b≠p:=fun q z=>by subst z;rw[h0]at q;cases q
   have S2:Same H (upd H' p (.frz {cls:=.type "list", data:=.seq its.toArray m} (.lst ws))):=fun b o q'=>by rw[upd_ne (ne q')];exact S1 b o q'
   refine⟨.ref p,_,os,bare,⟨un.keep,un.slot,fun b o q' n' hx=>?_,un.there,fun b ys q'=>?_,fun b o u' q'=>?_,fun b ps' q'=>?_⟩,fun b ob q'=>?_,rv,q (.lst zs) (.ref p) _ S2 (rep_lst.mpr ⟨p,ws,rfl,.inl ⟨_,upd_same⟩,rr.kp K1⟩) n⟩
   ·have e1:=un.free b o q' n' hx
    rw[upd_ne (by rintro rfl;rw[hp]at e1;cases e1)]
    exact e1
   ·rw[upd_ne (ne q')];exact un.tups b ys q'
   ·rw[upd_ne (ne q')];exact un.frzs b o u' q'
   ·obtain⟨more,e1⟩:=un.tbls b ps' q'
    exact⟨more,by rw[upd_ne (ne q')];exact e1⟩
   ·by_cases hb:b=p
    ·subst hb
     rw[upd_same]at q'
     cases q'
     exact⟨eh,z,its,m,rl,eh⟩
    ·rw[upd_ne hb]at q'
     refine(hok b ob q').stay (fun c v hc q=>q) (fun c q=>?_) fun c ys q=>?_
     ·rw[upd_ne (by rintro rfl;rw[hp]at q;cases q)];exact q
     ·rw[upd_ne (by rintro rfl;rw[hp]at q;cases q)];exact q
  | next=>exact False.elim h
  | brk=>exact False.elim h
  | cont=>exact False.elim h
theorem CalO.frz{P:Program}{w:World}{K:PySem.W.Frag}{mg:Str->Option Value}{base:Heap}{k:Nat}{x:Str}{ps:List Str}{S:SpO}(C:CalO P w K mg base k x ps S):Cal P w K mg base k x ps (frO S) :=
 let ⟨f,fd,F,b,kp,m⟩:=C;⟨f,fd,F.frz,b,kp,m⟩
theorem RepSt.putOwnS{K:PySem.W.Frag}{H0 H H':Hp}{σ:St}{τ:List Slot}{i:Nat}{ts:List T}{vs:List V}{p:Addr}(R:RepSt K H0 H σ τ)(S:Same H H')(hp:H p=none)(hp':H' p=some (.lst vs))(r:Reps K H' ts vs):RepSt K H0 H' (σ.set i (some (.ref p))) (sput τ i (.own ts)):=by
 refine⟨R.same.trans S,by rw[length_sput,List.length_set];exact R.len,fun j=>?_,fun a b ts' us q hab ha hb ea eb=>?_⟩
 ·by_cases hij:i=j
  ·subst hij
   by_cases hi:i < τ.length
   ·rw[sget_same hi]
    exact⟨p,vs,List.getElem?_set_self (by rw[← R.len];exact hi),hp',r,R.same.free hp⟩
   ·rw[sget_big (by rw[length_sput];omega)]
    trivial
  ·rw[sget_ne hij,List.getElem?_set_ne hij]
   exact(R.slot j).mono S
 ·-- an elder own list stands at a tracked place,the new one did not
  have old:∀c ts,i≠c->sget (sput τ i (.own ts')) c=.own ts->σ[c]?≠some (some (.ref p)):=fun c ts hc hcs e=>by
   rw[sget_ne hc]at hcs
   have:=R.slot c
   rw[hcs]at this
   obtain⟨p',vs',e',h1,_⟩:=this
   rw[e]at e'
   cases e'
   rw[hp]at h1
   cases h1
  have isI:∀c,i=c->∀us,sget (sput τ i (.own ts)) c=.own us->(σ.set i (some (.ref p)))[c]?=some (some (.ref p)):=fun c hc us hcs=>by
   subst hc
   by_cases hi:i < τ.length
   ·exact List.getElem?_set_self (by rw[← R.len];exact hi)
   ·rw[sget_big (by rw[length_sput];omega)]at hcs;cases hcs
  by_cases ia:i=a
  ·have z:=isI a ia _ ha
   rw[z]at ea
   cases ea
   have ib:i≠b:=fun e=>hab (ia.symm.trans e)
   rw[List.getElem?_set_ne ib]at eb
   refine old b us ib ?_ eb
   rw[sget_ne ib]at hb ⊢
   exact hb
  ·rw[List.getElem?_set_ne ia]at ea
   by_cases ib:i=b
   ·have z:=isI b ib _ hb
    rw[z]at eb
    cases eb
    refine old a ts' ia ?_ ea
    rw[sget_ne ia]at ha ⊢
    exact ha
   ·rw[List.getElem?_set_ne ib]at eb
    rw[sget_ne ia]at ha
    rw[sget_ne ib]at hb
    exact R.apart a b ts' us q hab ha hb ea eb
section
variable {X:Cx} {e:Expr} {b:Expr} {es:List Expr} {wa wb w:WE} {ws:WA} {pos:Pos}
def sOwnF(i:Nat)(S:SpO)(ws:WA):WS:=fun D τ=>ws τ fun ts=>S ts fun us=>D.nx (sput τ i (.own us))
theorem jsetO{k i:Nat}{ps:List Str}{S:SpO}{x y:Str}{p yp spos:Pos}(hN:X.N.Nodup)(hi:X.N[i]?=some y)(hy:Loc X.env.scope y)(C:CalO X.prog X.w X.K X.mg X.base k x ps S)(hr:Room k X.A)(hg:Gl X x)(ha:JA X (e::es) ws)
  (hdb:(x==("__debug__" : Str))=false:=by decide) (he:starEach (e::es) X.env=(false,eval e X.env)::starEach es X.env:=by exact star1 rfl) (hpl:(backTo pos (starEach es X.env)).any (·.1)=false:=by exact stars rfl)
  (hs:swapsWith (.Call (.Name x p) (e::es) [] pos) (some (.Name y yp)) spos.line X.env=pure false:=by rfl) (hf:X.fn y=true∨X.env.scope.names.lookup y=some .local:=by first|exact .inl rfl|exact .inr rfl|assumption) :
  JS X (.Assign [.Name y yp] (.Call (.Name x p) (e::es) [] pos) spos) (sOwnF i S ws):=by
 obtain⟨f,fd,F,hb,hk,hm⟩:=C
 refine ps_of (ps_set hN hi hy (pe_call F.ok hr hg hm hk hb .nil pass0 ha hdb he hpl) hs hf) fun D σ H ⟨τ,D0,R,hw,kn,_⟩=>?_
 refine⟨τ,_,R,hw,fun ts vs H1 S1 r1 q1=>?_⟩
 have e0:vs++[]=vs:=List.append_nil vs
 show spO X.K ps.length S (vs++[]) H1 _ E0
 rw[e0]
 exact⟨ts,_,by rw[r1.length];exact F.len _ _ q1,r1,q1,fun us q ws' H' S2 h0 hp rr n=>kn _ _ H' (.of (S1.trans S2)) ((R.mono S1).putOwnS S2 h0 hp rr) n⟩
def sSetIx(i:Nat)(wb wa:WE):WS:=fun D τ=>match sget τ i with
 | .own ts=>wa τ fun t=>wb τ fun y=>(match y with | .int k=>(match ixN ts.length k with|some j=>D.nx (sput τ i (.own (ts.set j t)))|none=>False)|_=>False)
 | _=>False
theorem Reps.set{K:PySem.W.Frag}{H:Hp}{t:T}{v:V}(r:Rep K H t v):∀{ts:List T}{vs:List V}{j:Nat},Reps K H ts vs->Reps K H (ts.set j t) (vs.set j v)
 | [],vs,j,h=>by
  rw[reps_nil]at h
  subst h
  exact reps_nil.mpr rfl
 | x::ts,vs,j,h=>by
  rw[reps_cons]at h
  obtain⟨u,us,rfl,h1,h2⟩:=h
  cases j with
  | zero=>exact reps_cons.mpr ⟨_,_,rfl,r,h2⟩
  | succ j=>exact reps_cons.mpr ⟨_,_,rfl,h1,Reps.set r h2⟩
def sCatO(i j:Nat)(ws:WA):WS:=fun D τ=>match sget τ j with
 | .own ts=>ws τ fun us=>us.length<=1000/\ts.length + us.length<=1000/\D.nx (sput τ i (.own (ts++us)))
 | _=>False
def iOwn(i:Nat):WI:=fun τ Q=>match sget τ i with | .own ts=>Q ts|_=>False
end
end TL
namespace TL
open PySem PySem.Spec PyProof.Rows L2
mutual
def noL:T->Bool
 | .non | .bl _ | .int _ | .str _=>true
 | .tup ts=>noLs ts
 | _=>false
def noLs:List T->Bool
 | []=>true
 | t::ts=>noL t&&noLs ts
end
mutual
theorem Rep.noL{K:PySem.W.Frag}{H H':Hp}(k:∀a xs,SqT K H a xs->SqT K H' a xs):∀{t:T}{v:V},TL.noL t=true->Rep K H t v->Rep K H' t v
 | .non,v,_,h=>by rw[rep_non]at h ⊢;exact h
 | .bl b,v,_,h=>by rw[rep_bl]at h ⊢;exact h
 | .int i,v,_,h=>by rw[rep_int]at h ⊢;exact h
 | .str x,v,_,h=>by rw[rep_str]at h ⊢;exact h
 | .tup ts,v,n,h=>by
  rw[rep_tup]at h ⊢
  obtain⟨p,vs,e,s,r⟩:=h
  exact⟨p,vs,e,k p vs s,Reps.noL k (by rw[TL.noL]at n;exact n) r⟩
 | .lst ts,v,n,h=>by simp[TL.noL]at n
 | .dct,v,n,h=>by simp[TL.noL]at n
 | .exc c,v,n,h=>by simp[TL.noL]at n
 | .exf c f t,v,n,h=>by simp[TL.noL]at n
 | .dic _ _,v,n,h=>by simp[TL.noL]at n
theorem Reps.noL{K:PySem.W.Frag}{H H':Hp}(k:∀a xs,SqT K H a xs->SqT K H' a xs):∀{ts:List T}{vs:List V},TL.noLs ts=true->Reps K H ts vs->Reps K H' ts vs
 | [],vs,_,h=>by rw[reps_nil]at h ⊢;exact h
 | t::ts,vs,n,h=>by
  rw[reps_cons]at h ⊢
  obtain⟨v,r,e,h1,h2⟩:=h
  rw[TL.noLs,Bool.and_eq_true]at n
  exact⟨v,r,e,Rep.noL k n.1 h1,Reps.noL k n.2 h2⟩
end
section
variable {X:Cx}
theorem same_thaw{H H2:Hp}{p:Addr}{o:Obj}{vs:List V}(hp:H p=some (.lst vs))(S:Same (upd H p (.frz o (.lst vs))) H2):Same H (upd H2 p (.lst vs)):=fun b ob q=>by
 by_cases e:b=p
 ·subst e
  rw[upd_same]
  rw[hp]at q
  exact q
 ·rw[upd_ne e]
  exact S b ob (by rw[upd_ne e];exact q)
def wFz(i:Nat)(w:WE):WE:=fun τ Q=>match sget τ i with
 | .own ts=>w (sput τ i (.val (.lst ts))) fun t=>TL.noL t=true/\Q t
 | _=>False
def tFz(i:Nat)(w:WT):WT:=fun τ Q=>match sget τ i with
 | .own ts=>w (sput τ i (.val (.lst ts))) Q
 | _=>False
theorem jfzT(i:Nat){e:Expr}{w:WT}(h:JT X e w):JT X e (tFz i w):=by
 intro pins s σ H Q I ⟨τ,Q0,R,hw,k⟩
 unfold tFz at hw
 cases own:sget τ i with
 | own ts =>
  rw[own]at hw
  have sl:=R.slot i
  rw[own]at sl
  obtain⟨p,vs,ev,hp,rr,n0⟩:=sl
  obtain⟨o,I'⟩:=Inv.freeze I hp
  refine thn (h pins s σ _ (fun b H2=>Same (upd H p (.frz o (.lst vs))) H2/\Q0 b) I' ⟨_,_,R.freeze own ev hp rr,hw,fun t H2 S2 q2=>⟨S2,q2⟩⟩) fun u s' ⟨H2,I2,S2,q2⟩=>?_
  have hp2:H2 p=some (.frz o (.lst vs)):=S2 _ _ upd_same
  exact⟨_,Inv.unfreeze I2 hp2 n0,k _ _ (same_thaw hp S2) q2⟩
 | _=>rw[own]at hw;exact hw.elim
def vat1(v:V):Slot->Slot
 | .val t=>.vat t v
 | .vat t u=>.vat t u
 | _=>.no
def vatT(i:Nat)(ts:List T)(a:Nat->V):Nat->List Slot->List Slot
 | _,[]=>[]
 | n,s::r=>(if n=i then .vat (.lst ts) (a n) else vat1 (a n) s)::vatT i ts a (n + 1) r
def backT(Z:List Nat):Nat->List Slot->List Slot
 | _,[]=>[]
 | n,s::r=>(if n∈Z then .no else s)::backT Z (n + 1) r
def lone1:Slot->Bool
 | .no=>true
 | .val _=>true
 | .vat _ _=>true
 | _=>false
def lone(i:Nat):Nat->List Slot->Bool
 | _,[]=>true
 | n,s::r=>(decide (n=i)||lone1 s)&&lone i (n + 1) r
def sFzS(i:Nat)(Z:List Nat)(w:WS):WS:=fun D τ=>match sget τ i with
 | .own ts=>lone i 0 τ=true/\i∉Z/\∀a:Nat->V,w {nx:=fun τ'=>(τ'.length=τ.length/\∀j,j < τ.length->j∉Z->sget τ' j=sget (vatT i ts a 0 τ) j)/\D.nx (backT Z 0 τ),rt:=D.rt,bk:=fun _=>False,ct:=fun _=>False} (vatT i ts a 0 τ)
 | _=>False
end
section
variable {X:Cx} {a b c e:Expr} {es:List Expr} {wa wb wc w:WE} {ws:WA} {pos:Pos}
def rMulLT(x y:T)(Q:T->Prop):Prop:=match x,y with
 | .lst ts,.int n=>∃k:Nat,n=k/\k<=1000/\ts.length * k<=1000/\Q (.lst (List.replicate k ts).flatten)
 | _,_=>False
def lstQ(Q:List T->Prop):T->Prop:=fun t=>match t with | .lst us=>Q us|_=>False
def JF(X:Cx)(e:Expr)(w:WE):Prop:=PE X e fun σ H Q=>∃τ Q0,RepSt X.K X.H₀ H σ τ/\w τ (lstQ Q0)/\∀us p ws H',Same H H'->X.H₀ p=none->H p=none->H' p=some (.lst ws)->Reps X.K H' us ws->Q0 us->Q (.ref p) H'
end
section
variable {X:Cx} {a b c e:Expr} {es:List Expr} {wa wb wc w:WE} {ws:WA} {pos:Pos}
def rCountTs(ts us:List T)(Q:T->Prop):Prop:=match us with
 | [.int k]=>(match intsOf ts with|some ns=>Q (.int (ns.count k:Nat))|none=>False)
 | _=>False
def wCount(wa:WE)(ws:WA):WE:=fun τ Q=>wa τ fun x=>match x with
 | .lst ts=>ws τ fun us=>rCountTs ts us Q
 | _=>False
def cInTT(x y:T)(Q:Bool->Prop):Prop:=match x,y with
 | .str z,.tup ts=>(match strsOf ts with|some zs=>Q (zs.contains z)|none=>False)
 | _,_=>False
end
end TL
end
section
namespace TL
open PySem PySem.Spec PyProof.Rows L2
open Classical in
noncomputable def hidH(H:Hp)(F:Addr->Prop):Hp:=fun b=>if F b then none else H b
theorem hid_in{H:Hp}{F:Addr->Prop}{b:Addr}(h:F b):hidH H F b=none:=if_pos h
theorem hid_out{H:Hp}{F:Addr->Prop}{b:Addr}(h:¬ F b):hidH H F b=H b:=if_neg h
theorem hid_some{H:Hp}{F:Addr->Prop}{b:Addr}{o:HO}(h:hidH H F b=some o):¬ F b/\H b=some o:=by
 by_cases z:F b
 ·rw[hid_in z]at h;cases h
 ·exact⟨z,by rw[hid_out z]at h;exact h⟩
theorem hid_same(H:Hp)(F:Addr->Prop):Same (hidH H F) H:=fun b o q=>(hid_some q).2
theorem hid_mono{H H':Hp}{F F':Addr->Prop}(S:Same H H')(h:∀b,F' b->F b∨H b=none):Same (hidH H F) (hidH H' F'):=fun b o q=>by
 obtain⟨n,e⟩:=hid_some q
 rw[hid_out fun z=>?_]
 ·exact S b o e
 ·rcases h b z with z|z
  ·exact n z
  ·rw[e]at z;cases z
theorem hid_upd{H:Hp}{F:Addr->Prop}{q:Addr}{o:HO}(h:F q):hidH (upd H q o) F=hidH H F:=by
 funext b
 by_cases z:F b
 ·rw[hid_in z,hid_in z]
 ·rw[hid_out z,hid_out z,upd_ne fun e=>z (by rw[e];exact h)]
def LikeT(K:PySem.W.Frag)(H H':Hp):Prop:=∀a xs,SqT K H a xs->SqT K H' a xs
theorem LikeT.same{K:PySem.W.Frag}{H H':Hp}(S:Same H H'):LikeT K H H':=fun a xs h=>by
 rcases h with (h|⟨o,h⟩)|h
 ·exact .inl (.inl (S _ _ h))
 ·exact .inl (.inr ⟨o,S _ _ h⟩)
 ·exact .inr h
theorem LikeT.but{K:PySem.W.Frag}{H H':Hp}{F:Addr->Prop}(hF:∀q,F q->(∃ws,H q=some (.lst ws))∨∃o ws,H q=some (.frz o (.lst ws)))(h:∀b,¬ F b->H' b=H b):LikeT K H H':=fun a xs q=>by
 have n:∀u,H a=some u->(∀ws,u ≠ .lst ws)->(∀o ws,u ≠ .frz o (.lst ws))->¬ F a:=fun u e n1 n2 z=>by
  rcases hF a z with ⟨ws,e'⟩|⟨o,ws,e'⟩
  ·rw[e']at e;cases e;exact n1 ws rfl
  ·rw[e']at e;cases e;exact n2 o ws rfl
 rcases q with (q|⟨o,q⟩)|q
 ·exact .inl (.inl (by rw[h a (n _ q (fun _ z=>by cases z) (fun _ _ z=>by cases z))];exact q))
 ·exact .inl (.inr ⟨o,by rw[h a (n _ q (fun _ z=>by cases z) (fun _ _ z=>by cases z))];exact q⟩)
 ·exact .inr q
abbrev rawL(H:Hp)(q:Addr)(ws:List V):Prop:=H q=some (.lst ws)
abbrev frzL(H:Hp)(q:Addr)(ws:List V):Prop:=∃o,H q=some (.frz o (.lst ws))
inductive OTs (K:PySem.W.Frag) (H:Hp) (L:Addr->List V->Prop):List T->List V->List Addr->Prop
 | nil:OTs K H L [] [] []
 | plain {t:T} {v:V} {ts:List T} {vs:List V} {F:List Addr}:noL t=true->Rep K H t v->OTs K H L ts vs F->OTs K H L (t::ts) (v::vs) F
 | list {q:Addr} {us ts:List T} {ws vs:List V} {F:List Addr}:L q ws->noLs us=true->Reps K H us ws->q∉F->OTs K H L ts vs F->OTs K H L (.lst us::ts) (.ref q::vs) (q::F)
theorem OTs.like{K:PySem.W.Frag}{H H':Hp}{L L':Addr->List V->Prop}{ts:List T}{vs:List V}{F:List Addr}(h:OTs K H L ts vs F)(k:LikeT K H H')(hL:∀q ws,q∈F->L q ws->L' q ws):OTs K H' L' ts vs F:=by
 induction h with
 | nil=>exact .nil
 | plain n r _ ih=>exact .plain n (Rep.noL k n r) (ih hL)
 | list l n r nq _ ih=>exact .list (hL _ _ List.mem_cons_self l) n (Reps.noL k n r) nq (ih fun q ws m=>hL q ws (List.mem_cons_of_mem _ m))
theorem OTs.lists{K:PySem.W.Frag}{H:Hp}{L:Addr->List V->Prop}{ts:List T}{vs:List V}{F:List Addr}(h:OTs K H L ts vs F):∀q∈F,∃ws,L q ws:=by
 induction h with
 | nil=>exact fun q m=>by cases m
 | plain _ _ _ ih=>exact ih
 | list l _ _ _ _ ih =>
  intro q m
  rcases List.mem_cons.mp m with rfl|m
  ·exact⟨_,l⟩
  ·exact ih q m
theorem OTs.length{K:PySem.W.Frag}{H:Hp}{L:Addr->List V->Prop}{ts:List T}{vs:List V}{F:List Addr}(h:OTs K H L ts vs F):ts.length=vs.length:=by
 induction h with
 | nil=>rfl
 | plain _ _ _ ih=>simp[ih]
 | list _ _ _ _ _ ih=>simp[ih]
theorem OTs.reps{K:PySem.W.Frag}{H:Hp}{ts:List T}{vs:List V}{F:List Addr}(h:OTs K H (frzL H) ts vs F):Reps K H ts vs:=by
 induction h with
 | nil=>exact reps_nil.mpr rfl
 | plain n r _ ih=>exact .cons r ih
 | list l n r _ _ ih =>
  obtain⟨o,e⟩:=l
  exact .cons (rep_lst.mpr ⟨_,_,rfl,.inl ⟨o,e⟩,r⟩) ih
section
variable {X:Cx} {pins:List (Addr×Obj)} {σ:St} {s:Shared}
theorem OTs.freeze{K:PySem.W.Frag}:∀{ts:List T}{vs:List V}{F:List Addr}{H:Hp},OTs K H (rawL H) ts vs F->Inv X pins σ H s->∃H',Inv X pins σ H' s/\OTs K H' (frzL H') ts vs F/\∀b,b∉F->H' b=H b
 | _,_,_,H,.nil,I=>⟨H,I,.nil,fun _ _=>rfl⟩
 | _,_,_,H,.plain n r h,I=>by
  have hl:=h.lists
  obtain⟨H',I',h',e⟩:=OTs.freeze h I
  exact⟨H',I',.plain n (Rep.noL (LikeT.but (F:=(· ∈ _)) (fun q m=>.inl (hl q m)) e) n r) h',e⟩
 | _,_,_,H,.list (q:=q) (ws:=ws) (F:=F) l n r nq h,I=>by
  obtain⟨o,I1⟩:=Inv.freeze I l
  have lk:LikeT K H (upd H q (.frz o (.lst ws))):=LikeT.but (F:=(·=q)) (fun b m=>.inl ⟨ws,by rw[m];exact l⟩) fun b m=>upd_ne m
  have h1:OTs K (upd H q (.frz o (.lst ws))) (rawL (upd H q (.frz o (.lst ws)))) _ _ F:=h.like lk fun b vs m z=>by
   show upd H q _ b=_
   rw[upd_ne (fun e=>nq (by rw[← e];exact m))]
   exact z
  have hl:=h1.lists
  obtain⟨H',I',h',e⟩:=OTs.freeze h1 I1
  have lk2:LikeT K (upd H q (.frz o (.lst ws))) H':=LikeT.but (F:=(· ∈ F)) (fun b m=>.inl (hl b m)) e
  refine⟨H',I',.list ⟨o,by rw[e q nq];exact upd_same⟩ n (Reps.noL lk2 n (Reps.noL lk n r)) nq h',fun b hb=>?_⟩
  rw[e b fun z=>hb (List.mem_cons_of_mem _ z),upd_ne fun z=>hb (by rw[z];exact List.mem_cons_self)]
end
def OT(K:PySem.W.Frag)(H:Hp)(L:Addr->List V->Prop)(ts:List T)(v:V)(F:List Addr):Prop:=∃p vs,v=.ref p/\SqT K H p vs/\OTs K H L ts vs F
theorem OT.like{K:PySem.W.Frag}{H H':Hp}{L L':Addr->List V->Prop}{ts:List T}{v:V}{F:List Addr}(h:OT K H L ts v F)(k:LikeT K H H')(hL:∀q ws,q∈F->L q ws->L' q ws):OT K H' L' ts v F:=by
 obtain⟨p,vs,e,sq,h⟩:=h
 exact⟨p,vs,e,k _ _ sq,h.like k hL⟩
theorem OT.rep{K:PySem.W.Frag}{H:Hp}{ts:List T}{v:V}{F:List Addr}(h:OT K H (frzL H) ts v F):Rep K H (.tup ts) v:=by
 obtain⟨p,vs,e,sq,h⟩:=h
 exact rep_tup.mpr ⟨p,vs,e,sq,h.reps⟩
theorem OT.mono{K:PySem.W.Frag}{H H':Hp}{ts:List T}{v:V}{F:List Addr}(h:OT K H (frzL H) ts v F)(S:Same H H'):OT K H' (frzL H') ts v F :=
 h.like (.same S) fun q ws _ ⟨o,e⟩=>⟨o,S _ _ e⟩
abbrev SpOT:=List T->(List T->Prop)->Prop
def spOT(K:PySem.W.Frag)(n:Nat)(S:SpOT):Sp:=fun vs H Q _=>∃(ts:List T) (Q0:List T->Prop),vs.length=n/\Reps K H ts vs/\S ts Q0/\∀us v F H',Same H H'->(∀q∈F,H q=none)->OT K H' (rawL H') us v F->Q0 us->Q v H'
structure FnOT(P:Program)(w:World)(K:PySem.W.Frag)(mg:Str->Option Value)(base:Heap)(k:Nat)(f:Addr)(fd:FuncData)(ps:List Str)(S:SpOT):Prop where
 ok:FnOk P w K mg base CX0 k f fd ps (spOT K ps.length S)
 len:∀ts Q,S ts Q->ts.length=ps.length
def ownsT(τ:List Slot):List Nat->(List T->Prop)->Prop
 | [],Q=>Q []
 | i::is,Q=>match sget τ i with | .own us=>noLs us=true/\ownsT τ is fun ts=>Q (.lst us::ts)|_=>False
def endOT(is:List Nat)(Q:List T->Prop):DT:={nx:=fun τ=>ownsT τ is Q,rt:=fun _=>False}
def CalOT(P:Program)(w:World)(K:PySem.W.Frag)(mg:Str->Option Value)(base:Heap)(k:Nat)(x:Str)(ps:List Str)(S:SpOT):Prop :=
 ∃f fd,FnOT P w K mg base k f fd ps S/\Binds K fd ps []/\PySem.W.keepIn K (.ref f)=true/\mg x=some (.ref f)
theorem CalOT.mk{P:Program}{w:World}{K:PySem.W.Frag}{mg:Str->Option Value}{base:Heap}{k:Nat}{x qual:Str}{ps:List Str}{S:SpOT}{st:Stmt}{f:Addr}{fd:FuncData}(F:Fun K x qual st f fd)(m:mg x=some (.ref f))
  (b:Binds K fd ps []) (h:FnOT P w K mg base k f fd ps S):CalOT P w K mg base k x ps S:=⟨f,fd,h,b,F.kp,m⟩
abbrev frOT(S:SpOT):SpT:=fun ts Q=>S ts fun us=>Q (.tup us)
section
variable {X:Cx} {e b:Expr} {es:List Expr} {wa wb w:WE} {ws:WA} {pos:Pos}
end
def isV:Slot->Bool
 | .vat _ _=>true
 | _=>false
def drop1:Slot->Slot
 | .vat _ _=>.no
 | s=>s
def val1:Slot->Slot
 | .vat t _=>.val t
 | s=>s
def dropV(τ:List Slot):List Slot:=τ.map drop1
def valV(τ:List Slot):List Slot:=τ.map val1
def noV(τ:List Slot):Bool:=τ.all fun s=>!isV s
theorem map_sput{f:Slot->Slot}:∀(τ:List Slot)(i:Nat)(x:Slot),(sput τ i x).map f=sput (τ.map f) i (f x)
 | [],_,_=>rfl
 | _::_,0,_=>rfl
 | y::r,i + 1,x=>by simp only[sput,List.map_cons,map_sput r i x]
theorem RepSt.away{K:PySem.W.Frag}{H0 H:Hp}{σ:St}{τ:List Slot}{i:Nat}{x:Option V}(R:RepSt K H0 H σ τ):RepSt K H0 H (σ.set i x) (sput τ i .no):=by
 have nown:∀c ts,sget (sput τ i .no) c=.own ts->i≠c/\sget τ c=.own ts:=fun c ts h=>by
  by_cases hc:i=c
  ·subst hc
   by_cases hi:i < τ.length
   ·rw[sget_same hi]at h;cases h
   ·rw[sget_big (by rw[length_sput];omega)]at h;cases h
  ·rw[sget_ne hc]at h
   exact⟨hc,h⟩
 refine⟨R.same,by rw[length_sput,List.length_set];exact R.len,fun j=>?_,fun a b ts us p hab ha hb ea eb=>?_⟩
 ·by_cases hij:i=j
  ·subst hij
   by_cases hi:i < τ.length
   ·rw[sget_same hi];trivial
   ·rw[sget_big (by rw[length_sput];omega)];trivial
  ·rw[sget_ne hij,List.getElem?_set_ne hij]
   exact R.slot j
 ·obtain⟨na,ha⟩:=nown a ts ha
  obtain⟨nb,hb⟩:=nown b us hb
  rw[List.getElem?_set_ne na]at ea
  rw[List.getElem?_set_ne nb]at eb
  exact R.apart a b ts us p hab ha hb ea eb
abbrev inF(Fs:Nat->List Addr)(b:Addr):Prop:=∃i,b∈Fs i
structure RSF(K:PySem.W.Frag)(H0 Hs H:Hp)(σ:St)(τ:List Slot)(Fs:Nat->List Addr):Prop where
 kp:Kp Hs (hidH H (inF Fs))
 rep:RepSt K H0 (hidH H (inF Fs)) σ (dropV τ)
 vat:∀i t v,sget τ i=.vat t v->σ[i]?=some (some v)/\∃ts,t=.tup ts/\OT K H (frzL H) ts v (Fs i)
 nv:∀i,isV (sget τ i)=false->Fs i=[]
 new:∀i q,q∈Fs i->H0 q=none
 dis:∀i j q,q∈Fs i->q∈Fs j->i=j
def RepSF(K:PySem.W.Frag)(H0 Hs H:Hp)(σ:St)(τ:List Slot):Prop:=∃Fs,RSF K H0 Hs H σ τ Fs
section
variable {K:PySem.W.Frag} {H0 Hs H H':Hp} {σ:St} {τ:List Slot} {Fs:Nat->List Addr}
theorem isV_vat{s:Slot}(h:isV s=true):∃t v,s=.vat t v:=by
 cases s<;>first|exact⟨_,_,rfl⟩|cases h
theorem RSF.lists(R:RSF K H0 Hs H σ τ Fs):∀q,inF Fs q->∃o ws,H q=some (.frz o (.lst ws)):=fun q ⟨i,m⟩=>by
 cases z:isV (sget τ i) with
 | false=>rw[R.nv i z]at m;cases m
 | true =>
  obtain⟨t,v,e⟩:=isV_vat z
  obtain⟨_,ts,_,p,vs,_,_,ot⟩:=R.vat i t v e
  obtain⟨ws,o,h⟩:=ot.lists q m
  exact⟨o,ws,h⟩
theorem RSF.like(R:RSF K H0 Hs H σ τ Fs):LikeT K H (hidH H (inF Fs)):=LikeT.but (F:=inF Fs) (fun q m=>.inr (R.lists q m)) fun b m=>hid_out m
theorem RSF.same0(R:RSF K H0 Hs H σ τ Fs):Same H0 H:=R.rep.same.trans (hid_same _ _)
theorem RSF.mono(R:RSF K H0 Hs H σ τ Fs)(S:Same H H'):RSF K H0 Hs H' σ τ Fs:=by
 have S':Same (hidH H (inF Fs)) (hidH H' (inF Fs)):=hid_mono S fun b z=>.inl z
 refine⟨R.kp.trans (.of S'),R.rep.mono S',fun i t v e=>?_,R.nv,R.new,R.dis⟩
 obtain⟨a,ts,b,ot⟩:=R.vat i t v e
 exact⟨a,ts,b,ot.mono S⟩
theorem RSF.put{i:Nat}{t:T}{v:V}(R:RSF K H0 Hs H σ τ Fs)(n:noL t=true)(r:Rep K H t v)(hi:isV (sget τ i)=false):RSF K H0 Hs H (σ.set i (some v)) (sput τ i (.val t)) Fs:=by
 have r':Rep K (hidH H (inF Fs)) t v:=Rep.noL R.like n r
 refine⟨R.kp,?_,fun j u x e=>?_,fun j z=>?_,R.new,R.dis⟩
 ·have:=R.rep.put (i:=i) r'
  unfold dropV at this ⊢
  rw[map_sput]
  exact this
 ·by_cases hj:i=j
  ·subst hj
   by_cases hl:i < τ.length
   ·rw[sget_same hl]at e;cases e
   ·rw[sget_big (by rw[length_sput];omega)]at e;cases e
  ·rw[sget_ne hj]at e
   rw[List.getElem?_set_ne hj]
   exact R.vat j u x e
 ·by_cases hj:i=j
  ·subst hj
   exact R.nv i hi
  ·rw[sget_ne hj]at z
   exact R.nv j z
open Classical in
theorem RSF.born{i:Nat}{ts:List T}{v:V}{F:List Addr}(R:RSF K H0 Hs H σ τ Fs)(S:Same H H')(fr:∀q∈F,H q=none)(ot:OT K H' (frzL H') ts v F)(hi:i < τ.length):∃Fs',RSF K H0 Hs H' (σ.set i (some v)) (sput τ i (.vat (.tup ts) v)) Fs':=by
 have at_i:∀j q,q∈(if j=i then F else Fs j)->(j=i/\q∈F)∨(j≠i/\q∈Fs j):=fun j q m=>by
  by_cases z:j=i
  ·rw[if_pos z]at m;exact .inl ⟨z,m⟩
  ·rw[if_neg z]at m;exact .inr ⟨z,m⟩
 have S':Same (hidH H (inF Fs)) (hidH H' (inF fun j=>if j=i then F else Fs j)):=hid_mono S fun b ⟨j,m⟩=>by
  rcases at_i j b m with ⟨_,m⟩|⟨_,m⟩
  ·exact .inr (fr b m)
  ·exact .inl ⟨j,m⟩
 have hlen:i < σ.length:=by have:=R.rep.len;unfold dropV at this;rw[List.length_map]at this;omega
 refine⟨fun j=>if j=i then F else Fs j,R.kp.trans (.of S'),?_,fun j t u e=>?_,fun j z=>?_,fun j q m=>?_,fun j k q m1 m2=>?_⟩
 ·have:=(R.rep.mono S').away (i:=i) (x:=some v)
  unfold dropV at this ⊢
  rw[map_sput]
  exact this
 ·by_cases hj:i=j
  ·subst hj
   rw[sget_same hi]at e
   cases e
   exact⟨List.getElem?_set_self hlen,ts,rfl,by rw[if_pos rfl];exact ot⟩
  ·rw[sget_ne hj]at e
   obtain⟨a,us,b,ot'⟩:=R.vat j t u e
   rw[List.getElem?_set_ne hj]
   exact⟨a,us,b,by rw[if_neg (Ne.symm hj)];exact ot'.mono S⟩
 ·by_cases hj:i=j
  ·subst hj
   rw[sget_same hi]at z
   cases z
  ·rw[sget_ne hj]at z
   rw[if_neg (Ne.symm hj)]
   exact R.nv j z
 ·rcases at_i j q m with ⟨_,m⟩|⟨_,m⟩
  ·exact R.same0.free (fr q m)
  ·exact R.new j q m
 ·have old:∀j,q∈Fs j->q∈F->False:=fun j m m'=>by
   obtain⟨o,ws,e⟩:=R.lists q ⟨j,m⟩
   rw[fr q m']at e
   cases e
  rcases at_i j q m1 with ⟨z1,m1⟩|⟨z1,m1⟩<;>rcases at_i k q m2 with ⟨z2,m2⟩|⟨z2,m2⟩
  ·rw[z1,z2]
  ·exact(old k m2 m1).elim
  ·exact(old j m1 m2).elim
  ·exact R.dis j k q m1 m2
end
theorem RepSF.mono{K:PySem.W.Frag}{H0 Hs H H':Hp}{σ:St}{τ:List Slot}(R:RepSF K H0 Hs H σ τ)(S:Same H H'):RepSF K H0 Hs H' σ τ:=let ⟨Fs,R⟩:=R;⟨Fs,R.mono S⟩
section
variable {X:Cx} {e b c:Expr} {es:List Expr} {wa wb w:WE} {ws:WA} {ua:WT} {t u:WS} {pos:Pos} {st:Stmt} {rest a d:List Stmt}
def sSetN(i:Nat)(w:WE):WS:=fun D τ=>w τ fun t=>noL t=true/\isV (sget τ i)=false/\D.nx (sput τ i (.val t))
def sBorn(i:Nat)(S:SpOT)(ws:WA):WS:=fun D τ=>i < τ.length/\ws τ fun ts=>S ts fun us=>∀v,D.nx (sput τ i (.vat (.tup us) v))
def sEnt(w:WS):WS:=fun D τ=>noV τ=true/\w {nx:=fun τ'=>D.nx (dropV τ'),rt:=D.rt,bk:=fun τ'=>D.bk (dropV τ'),ct:=fun τ'=>D.ct (dropV τ')} τ
def sLv(w:WS):WS:=fun D τ=>w {nx:=fun τ'=>noV τ'=true/\D.nx τ',rt:=D.rt,bk:=fun τ'=>noV τ'=true/\D.bk τ',ct:=fun τ'=>noV τ'=true/\D.ct τ' } (valV τ)
theorem noLs_app:∀{us:List T}{t:T},noLs us=true->noL t=true->noLs (us++[t])=true
 | [],t,_,n=>by simp only[List.nil_append,TL.noLs,n,Bool.and_true]
 | u::us,t,h,n=>by
  simp only[TL.noLs,Bool.and_eq_true]at h
  simp only[List.cons_append,TL.noLs,h.1,noLs_app h.2 n,Bool.and_true]
theorem OTs.at{K:PySem.W.Frag}{H:Hp}:∀{ts:List T}{vs:List V}{F:List Addr}{k:Nat}{us:List T},OTs K H (frzL H) ts vs F->ts[k]?=some (.lst us)->∃q ws o,vs[k]?=some (.ref q)/\q∈F/\H q=some (.frz o (.lst ws))/\Reps K H us ws ∧
  ∀o' y t,noL t=true->Rep K H t y->OTs K (upd H q (.frz o' (.lst (ws++[y])))) (frzL (upd H q (.frz o' (.lst (ws++[y]))))) (ts.set k (.lst (us++[t]))) vs F
 | _,_,_,k,us,.nil,h=>by simp at h
 | _,_,_,0,us,.plain n r ot,h=>by
  simp only[List.getElem?_cons_zero,Option.some.injEq]at h
  subst h
  unfold TL.noL at n
  cases n
 | _,_,_,k + 1,us,.plain n r ot,h=>by
  simp only[List.getElem?_cons_succ]at h
  obtain⟨q,ws,o,e1,m,e2,rr,k'⟩:=OTs.at ot h
  refine⟨q,ws,o,by simpa using e1,m,e2,rr,fun o' y t nt rt=>?_⟩
  have lk:LikeT K H (upd H q (.frz o' (.lst (ws++[y])))):=LikeT.but (F:=(·=q)) (fun b z=>.inr ⟨o,ws,by rw[z];exact e2⟩) fun b z=>upd_ne z
  exact .plain n (Rep.noL lk n r) (k' o' y t nt rt)
 | _,_,_,0,us,.list (q:=q) (ws:=ws) (F:=F) l n r nq ot,h=>by
  simp only[List.getElem?_cons_zero,Option.some.injEq,T.lst.injEq]at h
  subst h
  obtain⟨o,e2⟩:=l
  refine⟨q,ws,o,rfl,List.mem_cons_self,e2,r,fun o' y t nt rt=>?_⟩
  have lk:LikeT K H (upd H q (.frz o' (.lst (ws++[y])))):=LikeT.but (F:=(·=q)) (fun b z=>.inr ⟨o,ws,by rw[z];exact e2⟩) fun b z=>upd_ne z
  refine .list ⟨o',upd_same⟩ ?_ ((Reps.noL lk n r).append (.one (Rep.noL lk nt rt))) nq (ot.like lk fun b vs m ⟨o2,z⟩=>⟨o2,?_⟩)
  ·exact noLs_app n nt
  ·rw[upd_ne (fun e=>nq (by rw[← e];exact m))]
   exact z
 | _,_,_,k + 1,us,.list (q:=q0) (ws:=ws0) (F:=F) l n r nq ot,h=>by
  simp only[List.getElem?_cons_succ]at h
  obtain⟨q,ws,o,e1,m,e2,rr,k'⟩:=OTs.at ot h
  refine⟨q,ws,o,by simpa using e1,List.mem_cons_of_mem _ m,e2,rr,fun o' y t nt rt=>?_⟩
  have lk:LikeT K H (upd H q (.frz o' (.lst (ws++[y])))):=LikeT.but (F:=(·=q)) (fun b z=>.inr ⟨o,ws,by rw[z];exact e2⟩) fun b z=>upd_ne z
  obtain⟨o0,e0⟩:=l
  exact .list ⟨o0,by rw[upd_ne (fun e=>nq (by rw[e];exact m))];exact e0⟩ n (Reps.noL lk n r) nq (k' o' y t nt rt)
def sAppT(i k:Nat)(w:WE):WS:=fun D τ=>match sget τ i with
 | .vat (.tup ts) v=>(match ts[k]? with
  | some (.lst us)=>w τ fun t=>noL t=true/\us.length < 1000/\D.nx (sput τ i (.vat (.tup (ts.set k (.lst (us++[t])))) v))
  | _=>False)
 | _=>False
end
section
variable {X:Cx} {e b c:Expr} {es:List Expr} {wa wb w:WE} {ws:WA} {pos:Pos} {st:Stmt}
def sOwnW(i:Nat)(w:WE):WS:=fun D τ=>w τ (lstQ fun us=>D.nx (sput τ i (.own us)))
end
section
variable {X:Cx} {e b c a:Expr} {es:List Expr} {wa wb w:WE} {ws:WA} {pos:Pos}
def sgnT(x:Str):List T:=x.cps.toList.map fun c=>.str ⟨#[c]⟩
def iStr(w:WE):WI:=fun τ Q=>w τ fun t=>match t with
 | .str x=>x.cps.all (· < 128)=true/\Q (sgnT x)
 | _=>False
def cLeS(x y:T)(Q:Bool->Prop):Prop:=match x,y with
 | .str i,.str j=>Q (!(decide (j.cps.toList < i.cps.toList)))
 | _,_=>False
end
end TL
end
section
namespace TL
open PySem PySem.Spec PyProof.Rows L2
section
variable {X:Cx} {e b c:Expr} {es:List Expr} {wa wb w:WE} {ws:WA} {ua:WT} {t u:WS} {pos:Pos} {st:Stmt} {rest a d:List Stmt}
def sNoR(w:WS):WS:=fun D τ=>w {nx:=D.nx,rt:=fun _=>False} τ
def sRetP(ws:WA):WS:=fun D τ=>ws τ fun ts=>ts.length<=1000/\noLs ts=true/\D.rt (.tup ts)
def sRetO(w:WE)(i:Nat):WS:=fun D τ=>w τ fun t=>noL t=true/\match sget τ i with | .own us=>noLs us=true/\D.rt (.tup [t,.lst us])|_=>False
def sRetC(S:SpOT)(ws:WA):WS:=fun D τ=>ws τ fun ts=>S ts fun us=>D.rt (.tup us)
end
def endR(Q:List T->Prop):DT:={nx:=fun _=>False,rt:=fun t=>match t with | .tup us=>Q us|_=>False}
end TL
end
section
namespace TL
open PySem PySem.Spec PyProof.Rows L2
theorem RSF.away{K:PySem.W.Frag}{H0 Hs H:Hp}{σ:St}{τ:List Slot}{Fs:Nat->List Addr}{j:Nat}(R:RSF K H0 Hs H σ τ Fs)(hj0:isV (sget τ j)=false)(x:Option V):RSF K H0 Hs H (σ.set j x) (sput τ j .no) Fs:=by
 refine⟨R.kp,?_,fun l u y e=>?_,fun l z=>?_,R.new,R.dis⟩
 ·have:=R.rep.away (i:=j) (x:=x)
  unfold dropV at this ⊢
  rw[map_sput]
  exact this
 ·by_cases hj:j=l
  ·subst hj
   by_cases hl:j < τ.length
   ·rw[sget_same hl]at e;cases e
   ·rw[sget_big (by rw[length_sput];omega)]at e;cases e
  ·rw[sget_ne hj]at e
   rw[List.getElem?_set_ne hj]
   exact R.vat l u y e
 ·by_cases hj:j=l
  ·subst hj
   exact R.nv j hj0
  ·rw[sget_ne hj]at z
   exact R.nv l z
theorem sput_self:∀(τ:List Slot)(i:Nat),sput τ i (sget τ i)=τ
 | [],_=>rfl
 | _::_,0=>rfl
 | x::r,i + 1=>by
  have:=sput_self r i
  show x::sput r i (sget r i)=x::r
  rw[this]
def allL:List T->Bool
 | []=>true
 | .lst _::ts=>allL ts
 | _=>false
def sClrT(i j:Nat):WS:=fun D τ=>match sget τ i with
 | .vat (.tup ts) v=>allL ts=true/\i≠j/\j < τ.length/\isV (sget τ j)=false/\D.nx (sput (sput τ i (.vat (.tup (ts.map fun _=>.lst [])) v)) j .no)
 | _=>False
section
variable {X:Cx} {pos:Pos}
end
end TL
namespace TL
open PySem PySem.Spec PyProof.Rows L2
end TL
end
section
namespace TL
open PySem PySem.Spec PyProof.Rows L2
section
variable {X:Cx} {pins:List (Addr×Obj)} {σ:St} {H H':Hp} {s s':Shared} {a:Addr}
end
end TL
end
section
namespace TL
open PySem PySem.Spec PyProof.Rows L2
section
variable {X:Cx} {pins:List (Addr×Obj)} {σ:St} {H H':Hp} {s s':Shared} {p:Addr}
end
section
variable {X:Cx} {e b c:Expr} {es:List Expr} {wa wb w:WE} {ws:WA} {ua:WT} {t u:WS} {pos:Pos} {st:Stmt} {rest a d:List Stmt} {j:Nat} {p:Addr}
def sRetM(j:Nat)(w:WE):WS:=fun D τ=>w τ fun t=>match sget τ j with | .own us=>D.rt (.tup [t,.lst us])|_=>False
end
abbrev SpM:=List T->(T->List T->Prop)->Prop
def spM(K:PySem.W.Frag)(n:Nat)(S:SpM):Sp:=fun vs H Q _=>∃(ts us:List T) (fv:List V) (ws:List V) (p:Addr) (Q0:T->List T->Prop),vs=fv++[.ref p]/\vs.length=n/\H p=some (.lst ws)/\Reps K H us ws/\Reps K H ts fv/\S (ts++[.lst us]) Q0 ∧
 ∀t us' v ws' H',Same (hidH H (·=p)) H'->Rep K H' t v->H' p=some (.lst ws')->Reps K H' us' ws'->Q0 t us'->Q v H'
structure FnM(P:Program)(w:World)(K:PySem.W.Frag)(mg:Str->Option Value)(base:Heap)(k:Nat)(f:Addr)(fd:FuncData)(ps:List Str)(S:SpM):Prop where
 ok:FnOk P w K mg base CX0 k f fd ps (spM K ps.length S)
 len:∀ts Q,S ts Q->ts.length=ps.length
def endM(Q:T->List T->Prop):DT:={nx:=fun _=>False,rt:=fun t=>match t with | .tup [t,.lst us]=>Q t us|_=>False}
def CalM(P:Program)(w:World)(K:PySem.W.Frag)(mg:Str->Option Value)(base:Heap)(k:Nat)(x:Str)(ps:List Str)(S:SpM):Prop :=
 ∃f fd,FnM P w K mg base k f fd ps S/\Binds K fd ps []/\PySem.W.keepIn K (.ref f)=true/\mg x=some (.ref f)
theorem CalM.mk{P:Program}{w:World}{K:PySem.W.Frag}{mg:Str->Option Value}{base:Heap}{k:Nat}{x qual:Str}{ps:List Str}{S:SpM}{st:Stmt}{f:Addr}{fd:FuncData}(F:Fun K x qual st f fd)(m:mg x=some (.ref f))
  (b:Binds K fd ps []) (h:FnM P w K mg base k f fd ps S):CalM P w K mg base k x ps S:=⟨f,fd,h,b,F.kp,m⟩
def sSetM(k i:Nat)(S:SpM)(w1 w2:WE):WS:=fun D τ=>w1 τ fun t1=>w2 τ fun t2=>match sget τ i with
 | .own us=>S [t1,t2,.lst us] fun t us'=>D.nx (sput (sput τ i (.own us')) k (.val t))
 | _=>False
section
variable {X:Cx} {e b c:Expr} {wa wb w w1 w2:WE} {pos:Pos}
end
end TL
end
section
namespace TL
open PySem PySem.Spec PyProof.Rows L2
section
variable {X:Cx}
def hasS(x y:Str):Bool:=!(PySem.Builtin.Str.occurrences x y 0 x.length 1).isEmpty
def cNotInS(x y:T)(Q:Bool->Prop):Prop:=match x,y with
 | .str i,.str j=>Q (!hasS j i)
 | _,_=>False
end
end TL
end
section
namespace TL
open PySem PySem.Spec PyProof.Rows L2
section
variable {X:Cx} {e b c:Expr} {es:List Expr} {wa wb w:WE} {ws:WA} {pos:Pos}
def sAug(i:Nat)(w:WE):WS:=fun D τ=>match sget τ i with
 | .val (.int n)=>w τ fun t=>match t with | .int m=>D.nx (sput τ i (.val (.int (n + m))))|_=>False
 | _=>False
def sExt(i:Nat)(w:WE):WS:=fun D τ=>match sget τ i with
 | .own ts=>w τ (lstQ fun us=>ts.length + us.length<=1000/\D.nx (sput τ i (.own (ts++us))))
 | _=>False
abbrev WP:=List Slot->(T->List Slot->Prop)->Prop
abbrev WPA:=List Slot->(List T->List Slot->Prop)->Prop
def pE(w:WE):WP:=fun τ Q=>w τ fun t=>Q t τ
def paNil:WPA:=fun τ Q=>Q [] τ
def paCons(w:WP)(ws:WPA):WPA:=fun τ Q=>w τ fun t τ1=>ws τ1 fun ts τ2=>Q (t::ts) τ2
def pTup(ws:WPA):WP:=fun τ Q=>ws τ fun ts τ'=>ts.length<=1000/\Q (.tup ts) τ'
def pPop(i:Nat)(w:WE):WP:=fun τ Q=>match sget τ i with
 | .own ts=>w τ fun t=>match t with
  | .int k=>∃(n:Nat) (u:T),k=(n:Int)/\n<=1000/\ts[n]?=some u/\Q u (sput τ i (.own (ts.eraseIdx n)))
  | _=>False
 | _=>False
def sSetP(i:Nat)(w:WP):WS:=fun D τ=>w τ fun t τ'=>D.nx (sput τ' i (.val t))
def sExprP(w:WP):WS:=fun D τ=>w τ fun _ τ'=>D.nx τ'
def sAppP(i:Nat)(w:WP):WS:=fun D τ=>match sget τ i with
 | .own _=>w τ fun t τ'=>match sget τ' i with
  | .own ts=>ts.length < 1000/\D.nx (sput τ' i (.own (ts++[t])))
  | _=>False
 | _=>False
end
end TL
end
section
namespace TL
open PySem PySem.Spec PyProof.Rows L2
section
variable {X:Cx} {e b c a:Expr} {es:List Expr} {wa wb w:WE} {ws:WA} {pos:Pos}
def wLRng(ws:WA):WE:=fun τ Q=>ws τ fun ts=>match ts with
 | [.int j]=>0<=j/\j<=1000/\Q (.lst (rangeT 0 j.toNat))
 | _=>False
theorem Kp.dict{H:Hp}{p:Addr}{kvs:List (Key×V)}(hp:H p=some (.dK kvs))(o:HO):Kp H (upd H p o) :=
 ⟨fun b xs h=>by rw[upd_ne (ne_of h hp (by intro z;cases z))];exact h,fun b o' u h=>by rw[upd_ne (ne_of h hp (by intro z;cases z))];exact h⟩
theorem RepSt.dict{K:PySem.W.Frag}{H0 H:Hp}{σ:St}{τ:List Slot}{p:Addr}{kvs kvs':List (Key×V)}(R:RepSt K H0 H σ τ)(hp:H p=some (.dK kvs))(n0:H0 p=none):RepSt K H0 (upd H p (.dK kvs')) σ τ:=by
 have k:=Kp.dict hp (.dK kvs')
 refine⟨fun b o h=>?_,R.len,fun j=>?_,R.apart⟩
 ·rw[upd_ne (fun z=>by rw[z,n0]at h;cases h)]
  exact R.same b o h
 ·have s:=R.slot j
  cases e:sget τ j with
  | no=>trivial
  | val t=>rw[e]at s;obtain⟨v,e1,r⟩:=s;exact⟨v,e1,r.kp k⟩
  | own ts=>rw[e]at s;obtain⟨q,vs,e1,h1,r,n⟩:=s;exact⟨q,vs,e1,by rw[upd_ne (ne_of h1 hp (by intro z;cases z))];exact h1,r.kp k,n⟩
  | see ts=>rw[e]at s;obtain⟨q,vs,e1,h1,r,n⟩:=s;exact⟨q,vs,e1,by rw[upd_ne (ne_of h1 hp (by intro z;cases z))];exact h1,r.kp k,n⟩
  | dic ps=>rw[e]at s;obtain⟨q,o,kv,e1,h1,ek,r⟩:=s;exact⟨q,o,kv,e1,k.frz _ _ _ h1,ek,r.kp k⟩
  | vat t v=>rw[e]at s;exact⟨s.1,s.2.kp k⟩
def putI(ks:List Int)(k:Int):List Int:=if ks.contains k then ks else ks++[k]
def onceT(j:Nat)(w:WE):List T->List Int->DT->List Slot->Prop
 | [],ks,D,_=>D.rt (.lst (ks.map T.int))
 | t::ts,ks,D,τ=>ks.length < 1000/\(match t with
  | .int k=>w (sput τ j (.val (.int k))) fun _=>onceT j w ts (putI ks k) D (sput τ j (.val (.int k)))
  | _=>False)
def sOnce(i j:Nat)(wi:WI)(w:WE):WS:=fun D τ=>(i < τ.length/\j < τ.length)/\wi (sput τ i .no) fun ts=>onceT j w ts [] D (sput τ i .no)
def rIdxT(ts us:List T)(Q:T->Prop):Prop:=match us with
 | [.int k]=>(match intsOf ts with|some ns=>k∈ns/\ns.length<=1000/\Q (.int (ns.idxOf k:Nat))|none=>False)
 | [.str k]=>(match strsOf ts with|some ns=>k∈ns/\ns.length<=1000/\Q (.int (ns.idxOf k:Nat))|none=>False)
 | _=>False
def wIdx(wa:WE)(ws:WA):WE:=fun τ Q=>wa τ fun x=>match x with
 | .lst ts=>ws τ fun us=>rIdxT ts us Q
 | _=>False
def rAnyT(ts:List T)(Q:T->Prop):Prop:=match ts with
 | [.lst xs]=>(match boolsOf xs with|some bs=>Q (.bl (bs.any id))|none=>False)
 | _=>False
end
end TL
end
section
namespace TL
open PySem PySem.Spec PyProof PyProof.Rows L2
abbrev ob(us:Array Value)(n:Nat)(dd:Option Addr)(sl:Array (Option Value)):Obj:={cls:=.type "list", dict:=dd,data:=.seq us n,slots:=sl}
def ltI:List Int->List Int->Bool
 | [],[]=>false
 | [],_::_=>true
 | _::_,[]=>false
 | a::r,b::t=>if a=b then ltI r t else decide (a < b)
section
variable {prog:Program} {w:World} {A:Around} {E:Value->Shared->Prop} {s:Shared} {a₀:Array Keyed} {f:Value->List Int}
def ky(f:Value->List Int)(xs:Array Keyed)(i:Nat):List Int:=match xs[i]? with
 | some p=>f p.1
 | none=>[]
structure LtF(prog:Program)(w:World)(A:Around)(s:Shared)(f:Value->List Int)(a₀:Array Keyed):Prop where
 lt:∀p∈a₀.toList,∀q∈a₀.toList,∀(E:Value->Shared->Prop)(Q:Bool->Shared->Prop),Q (ltI (f p.1) (f q.1)) s->wpAny (model prog w) A (oneLt' true p.1 q.1) Q E s
 nd:(a₀.toList.map fun p=>f p.1).Nodup
def AscTo(f:Value->List Int)(xs:Array Keyed)(k:Nat):Prop:=∀i j,i < j->j < k->ltI (ky f xs i) (ky f xs j)=true
structure Pl1(f:Value->List Int)(xs:Array Keyed)(k l r:Nat):Prop where
 lr:l<=r
 rk:r<=k
 low:∀i,i < l->ltI (ky f xs i) (ky f xs k)=true
 high:∀i,r<=i->i < k->ltI (ky f xs k) (ky f xs i)=true
theorem ky_bubble{xs:Array Keyed}{k d i:Nat}(hk:k < xs.size)(hd:d<=k):ky f (bubble xs k d) i=if i=k - d then ky f xs k else if k - d < i/\i<=k then ky f xs (i - 1) else ky f xs i:=by
 unfold ky
 rw[getElem?_bubble (xs:=xs) hk d hd i]
 by_cases e:i=k - d
 ·rw[if_pos e,if_pos e]
 ·rw[if_neg e,if_neg e]
  by_cases e2:k - d < i/\i<=k
  ·rw[if_pos e2,if_pos e2]
  ·rw[if_neg e2,if_neg e2]
theorem Pl1.put{xs:Array Keyed}{k l:Nat}(P:Pl1 f xs k l l)(hk:k < xs.size)(ha:AscTo f xs k):AscTo f (bubble xs k (k - l)) (k + 1):=fun i j hij hj=>by
 have:=P.rk
 have e0:k - (k - l)=l:=by omega
 rw[ky_bubble hk (by omega),ky_bubble hk (by omega),e0]
 by_cases e1:i=l
 ·rw[if_pos e1,if_neg (by omega),if_pos ⟨by omega,by omega⟩]
  exact P.high _ (by omega) (by omega)
 ·rw [if_neg e1]
  by_cases e2:l < i
  ·rw[if_pos ⟨e2,by omega⟩,if_neg (by omega),if_pos ⟨by omega,by omega⟩]
   exact ha _ _ (by omega) (by omega)
  ·rw[if_neg (by omega)]
   by_cases e3:j=l
   ·rw[if_pos e3]
    exact P.low _ (by omega)
   ·rw[if_neg e3]
    by_cases e4:l < j
    ·rw[if_pos ⟨e4,by omega⟩]
     exact ha _ _ (by omega) (by omega)
    ·rw[if_neg (by omega)]
     exact ha _ _ hij (by omega)
structure Dn(f:Value->List Int)(a₀:Array Keyed)(st:SortSt):Prop where
 perm:(arrOf st).Perm a₀
 failed:failedOf st=none
 pend:pendingOf st=#[(0,a₀.size,0)]
 asc:AscTo f (arrOf st) a₀.size
end
section
variable {prog:Program} {w:World} {A:Around} {E:Value->Shared->Prop} {s:Shared}
end
section
variable {prog:Program} {w:World} {A:Around} {E:Value->Shared->Prop} {s:Shared}
end
section
variable {X:Cx}
end
end TL
end
section
namespace TL
open PySem PySem.Spec PyProof.Rows L2
mutual
def GRep(K:PySem.W.Frag)(H:Hp)(G:Addr->Prop):T->V->Prop
 | .non,v=>v=.non
 | .bl b,v=>v=.bl b
 | .int i,v=>v=.int i
 | .str x,v=>v=.str x
 | .tup ts,v=>∃p vs,v=.ref p/\SqT K H p vs/\GReps K H G ts vs
 | .lst ts,v=>∃p vs o,v=.ref p/\G p/\H p=some (.frz o (.lst vs))/\GReps K H G ts vs
 | .dct,_=>False
 | .exc _,_=>False
 | .exf _ _ _,_=>False
 | .dic _ _,_=>False
def GReps(K:PySem.W.Frag)(H:Hp)(G:Addr->Prop):List T->List V->Prop
 | [],vs=>vs=[]
 | t::ts,vs=>∃v r,vs=v::r/\GRep K H G t v/\GReps K H G ts r
end
mutual
def nD:T->Bool
 | .tup ts=>nDs ts
 | .lst ts=>nDs ts
 | .dct=>false
 | .exc _=>false
 | .exf _ _ _=>false
 | .dic _ _=>false
 | _=>true
def nDs:List T->Bool
 | []=>true
 | t::ts=>nD t&&nDs ts
end
def noLK(K:PySem.W.Frag):Bool:=K.all fun p=>match p.2.cls with | .type t=>t != "list" | _=>true
theorem noLK_at{K:PySem.W.Frag}(h:noLK K=true):∀{a:Addr}{o:Obj},K.lookup a=some o->o.cls ≠ .type "list" := by
 intro a o e c
 have m:(a,o)∈K:=by
  clear h
  induction K with
  | nil=>cases e
  | cons p r ih =>
   obtain⟨b,ob⟩:=p
   rw[List.lookup_cons]at e
   cases q:a==b with
   | true =>
    rw[q]at e
    cases e
    rw[beq_iff_eq.mp q]
    exact List.mem_cons_self
   | false =>
    rw[q]at e
    exact List.mem_cons_of_mem _ (ih e)
 have:=List.all_eq_true.mp h _ m
 simp only[c]at this
 cases this
section
variable {K:PySem.W.Frag} {H H':Hp} {G G':Addr->Prop}
mutual
theorem GRep.rep:∀{t:T}{v:V},GRep K H G t v->Rep K H t v
 | .non,v,h=>by rw[GRep]at h;rw[rep_non];exact h
 | .bl b,v,h=>by rw[GRep]at h;rw[rep_bl];exact h
 | .int i,v,h=>by rw[GRep]at h;rw[rep_int];exact h
 | .str x,v,h=>by rw[GRep]at h;rw[rep_str];exact h
 | .tup ts,v,h=>by
  rw[GRep]at h
  obtain⟨p,vs,e,s,r⟩:=h
  exact rep_tup.mpr ⟨p,vs,e,s,GReps.reps r⟩
 | .lst ts,v,h=>by
  rw[GRep]at h
  obtain⟨p,vs,o,e,_,s,r⟩:=h
  exact rep_lst.mpr ⟨p,vs,e,.inl ⟨o,s⟩,GReps.reps r⟩
 | .dct,v,h=>by rw[GRep]at h;exact h.elim
 | .exc _,v,h=>by rw[GRep]at h;exact h.elim
 | .exf _ _ _,v,h=>by rw[GRep]at h;exact h.elim
 | .dic _ _,v,h=>by rw[GRep]at h;exact h.elim
theorem GReps.reps:∀{ts:List T}{vs:List V},GReps K H G ts vs->Reps K H ts vs
 | [],vs,h=>by rw[GReps]at h;rw[reps_nil];exact h
 | t::ts,vs,h=>by
  rw[GReps]at h
  obtain⟨v,r,e,a,b⟩:=h
  exact reps_cons.mpr ⟨v,r,e,GRep.rep a,GReps.reps b⟩
end
mutual
theorem GRep.like(k:LikeT K H H')(hl:∀q o xs,G q->H q=some (.frz o (.lst xs))->H' q=some (.frz o (.lst xs)))(hg:∀q,G q->G' q):∀{t:T}{v:V},GRep K H G t v->GRep K H' G' t v
 | .non,v,h=>by rw[GRep]at h ⊢;exact h
 | .bl b,v,h=>by rw[GRep]at h ⊢;exact h
 | .int i,v,h=>by rw[GRep]at h ⊢;exact h
 | .str x,v,h=>by rw[GRep]at h ⊢;exact h
 | .tup ts,v,h=>by
  rw[GRep]at h ⊢
  obtain⟨p,vs,e,s,r⟩:=h
  exact⟨p,vs,e,k _ _ s,GReps.like k hl hg r⟩
 | .lst ts,v,h=>by
  rw[GRep]at h ⊢
  obtain⟨p,vs,o,e,g,s,r⟩:=h
  exact⟨p,vs,o,e,hg p g,hl p o vs g s,GReps.like k hl hg r⟩
 | .dct,v,h=>by rw[GRep]at h;exact h.elim
 | .exc _,v,h=>by rw[GRep]at h;exact h.elim
 | .exf _ _ _,v,h=>by rw[GRep]at h;exact h.elim
 | .dic _ _,v,h=>by rw[GRep]at h;exact h.elim
theorem GReps.like(k:LikeT K H H')(hl:∀q o xs,G q->H q=some (.frz o (.lst xs))->H' q=some (.frz o (.lst xs)))(hg:∀q,G q->G' q):∀{ts:List T}{vs:List V},GReps K H G ts vs->GReps K H' G' ts vs
 | [],vs,h=>by rw[GReps]at h ⊢;exact h
 | t::ts,vs,h=>by
  rw[GReps]at h ⊢
  obtain⟨v,r,e,a,b⟩:=h
  exact⟨v,r,e,GRep.like k hl hg a,GReps.like k hl hg b⟩
end
theorem GRep.same(S:Same H H'){t:T}{v:V}(h:GRep K H G t v):GRep K H' G t v:=h.like (.same S) (fun q o xs _ e=>S _ _ e) fun q g=>g
mutual
theorem Rep.grep(nl:noLK K=true)(hg:∀q o xs,H q=some (.frz o (.lst xs))->G q):∀{t:T}{v:V},nD t=true->Rep K H t v->GRep K H G t v
 | .non,v,_,h=>by rw[GRep];rw[rep_non]at h;exact h
 | .bl b,v,_,h=>by rw[GRep];rw[rep_bl]at h;exact h
 | .int i,v,_,h=>by rw[GRep];rw[rep_int]at h;exact h
 | .str x,v,_,h=>by rw[GRep];rw[rep_str]at h;exact h
 | .tup ts,v,n,h=>by
  rw[GRep]
  rw[rep_tup]at h
  obtain⟨p,vs,e,s,r⟩:=h
  exact⟨p,vs,e,s,Reps.grep nl hg (by simpa only [nD] using n) r⟩
 | .lst ts,v,n,h=>by
  rw[GRep]
  rw[rep_lst]at h
  obtain⟨p,vs,e,s,r⟩:=h
  rcases s with ⟨o,s⟩|⟨o,its,m,lk,c,_⟩
  ·exact⟨p,vs,o,e,hg p o vs s,s,Reps.grep nl hg (by simpa only [nD] using n) r⟩
  ·exact absurd c (noLK_at nl lk)
 | .dct,v,n,h=>by simp[nD]at n
 | .exc _,v,n,h=>by simp[nD]at n
 | .exf _ _ _,v,n,h=>by simp[nD]at n
 | .dic _ _,v,n,h=>by simp[nD]at n
theorem Reps.grep(nl:noLK K=true)(hg:∀q o xs,H q=some (.frz o (.lst xs))->G q):∀{ts:List T}{vs:List V},nDs ts=true->Reps K H ts vs->GReps K H G ts vs
 | [],vs,_,h=>by rw[GReps];rw[reps_nil]at h;exact h
 | t::ts,vs,n,h=>by
  rw[GReps]
  rw[reps_cons]at h
  simp only[nDs,Bool.and_eq_true]at n
  obtain⟨v,r,e,a,b⟩:=h
  exact⟨v,r,e,Rep.grep nl hg n.1 a,Reps.grep nl hg n.2 b⟩
end
end
def isL:Option HO->Prop
 | some (.lst _)=>True
 | some (.frz _ (.lst _))=>True
 | _=>False
theorem isL_some{o:Option HO}(h:isL o):∃x,o=some x:=by cases o with|none=>exact h.elim|some x=>exact⟨x,rfl⟩
abbrev offG(H:Hp)(G:Addr->Prop):Addr->Prop:=fun b=>isL (H b)/\¬ G b
section
variable {X:Cx} {pins:List (Addr×Obj)} {σ:St} {H:Hp} {s s':Shared} {G:Addr->Prop}
open Classical in
theorem ce_sep{R:V->Hp->Prop}{u:Value}(I:Inv X pins σ H s)(h:CE X.stack X.prog X.w (hidH H (offG H G)) s (fun v H'=>Same (hidH H (offG H G)) H'/\R v H') u s') :
  CE X.stack X.prog X.w H s (fun v H2=>∃H',Same H H2/\Same H' H2/\(∀q o xs,H' q=some (.frz o (.lst xs))->G q∨H q=none)/\R v H') u s':=by
 obtain⟨v,H',os,bare,un,hok,r,S,q⟩:=h
 let F:=offG H G
 have get:∀b,F b->∃o,s.heap.get? b=some o:=fun b z=>by
  obtain⟨x,e⟩:=isL_some z.1
  have o:=I.hok b x e
  have:=ObjOk.lt o
  cases g:s.heap.get? b with
  | some ob=>exact⟨ob,rfl⟩
  | none=>exact absurd this (by
    have z1:=z.1
    rw[e]at z1
    cases x with
    | lst xs=>obtain⟨_,_,_,_,g'⟩:=o;rw[g]at g';cases g'
    | frz ob u=>obtain⟨g',_⟩:=o;rw[g]at g';cases g'
    | _=>exact z1.elim)
 have off:∀b,F b->H' b=none:=fun b z=>by
  obtain⟨o,g⟩:=get b z
  exact un.free b o g (hid_in z) (by simp)
 let H2:Hp:=fun b=>if F b then H b else H' b
 have h2in:∀b,F b->H2 b=H b:=fun b z=>if_pos z
 have h2out:∀b,¬ F b->H2 b=H' b:=fun b z=>if_neg z
 have S2:Same H' H2:=fun b o e=>by
  by_cases z:F b
  ·rw[off b z]at e;cases e
  ·rw[h2out b z];exact e
 have S1:Same H H2:=fun b o e=>by
  by_cases z:F b
  ·rw[h2in b z];exact e
  ·rw[h2out b z];exact S b o (by rw[hid_out z];exact e)
 have hn:∀{b:Addr},H b=none->hidH H F b=none:=fun {b} e=>by
  by_cases z:F b
  ·exact hid_in z
  ·rw[hid_out z];exact e
 refine⟨v,H2,os,bare,⟨fun b o g e m m'=>un.keep b o g (hn e) m m',fun b o g e m m'=>un.slot b o g (hn e) m m',fun b o g e m'=>?_,un.there,fun b xs e=>S1 b _ e,fun b o x e=>S1 b _ e,fun b ps e=>⟨#[],by rw[Array.append_empty];exact S1 b _ e⟩⟩,fun b o e=>?_,r,H',S1,S2,fun q o xs e=>?_,q⟩
 ·by_cases z:F b
  ·obtain⟨x,ex⟩:=isL_some z.1
   rw[e]at ex
   cases ex
  ·rw[h2out b z]
   exact un.free b o g (hn e) m'
 ·by_cases z:F b
  ·rw[h2in b z]at e
   have ok:=I.hok b o e
   have nf:b∉frs X.stack:=fun m=>by rw[I.stkFree b m]at e;cases e
   have kp:∀ob,s.heap.get? b=some ob->s'.heap.get? b=some ob:=fun ob g=>un.keep b ob g (hid_in z) nf (by simp)
   have z1:=z.1
   rw[e]at z1
   cases o with
   | lst xs =>
    obtain⟨a1,its,n,a2,a3⟩:=ok
    exact⟨a1,its,n,a2,kp _ a3⟩
   | frz ob u =>
    cases u with
    | lst xs =>
     obtain⟨g,a1,its,n,a2,a3⟩:=ok
     exact⟨kp _ g,a1,its,n,a2,kp _ a3⟩
    | _=>exact z1.elim
   | _=>exact z1.elim
  ·rw[h2out b z]at e
   exact(hok b o e).stay (fun _ _ _ g=>g) (fun c g=>S2 c _ g) fun c xs g=>S2 c _ g
 ·by_cases zn:H q=none
  ·exact .inr zn
  ·refine .inl (Classical.byContradiction fun ng=>?_)
   cases hq:H q with
   | none=>exact zn hq
   | some x =>
    by_cases z:F q
    ·rw[off q z]at e;cases e
    ·have:=S q x (by rw[hid_out z];exact hq)
     rw[e]at this
     cases this
     exact z ⟨by rw[hq];trivial,ng⟩
end
structure RG(K:PySem.W.Frag)(H0 Hs H:Hp)(σ:St)(τ:List Slot)(G:Addr->Prop):Prop where
 kp:Kp Hs (hidH H G)
 rep:RepSt K H0 (hidH H G) σ (dropV τ)
 vat:∀i t v,sget τ i=.vat t v->σ[i]?=some (some v)/\GRep K H G t v
 new:∀q,G q->H0 q=none
 fz:∀q,G q->∃o ws,H q=some (.frz o (.lst ws))
section
variable {K:PySem.W.Frag} {H0 Hs H H':Hp} {σ:St} {τ:List Slot} {G:Addr->Prop}
theorem RG.like(R:RG K H0 Hs H σ τ G):LikeT K H (hidH H G):=LikeT.but (F:=G) (fun q m=>.inr (R.fz q m)) fun b m=>hid_out m
theorem RG.same0(R:RG K H0 Hs H σ τ G):Same H0 H:=R.rep.same.trans (hid_same _ _)
theorem RG.mono(R:RG K H0 Hs H σ τ G)(S:Same H H'):RG K H0 Hs H' σ τ G:=by
 have S':Same (hidH H G) (hidH H' G):=hid_mono S fun b z=>.inl z
 refine⟨R.kp.trans (.of S'),R.rep.mono S',fun i t v e=>?_,R.new,fun q g=>?_⟩
 ·obtain⟨a,g⟩:=R.vat i t v e
  exact⟨a,g.same S⟩
 ·obtain⟨o,ws,e⟩:=R.fz q g
  exact⟨o,ws,S _ _ e⟩
theorem RG.born{i:Nat}{t:T}{v:V}{G':Addr->Prop}(R:RG K H0 Hs H σ τ G)(S:Same H H')(hi:i < τ.length)(hg:∀q,G q->G' q)(hn:∀q,G' q->G q∨(H q=none/\∃o ws,H' q=some (.frz o (.lst ws))))(g:GRep K H' G' t v) :
  RG K H0 Hs H' (σ.set i (some v)) (sput τ i (.vat t v)) G':=by
 have S':Same (hidH H G) (hidH H' G'):=hid_mono S fun b z=>(hn b z).imp id fun q=>q.1
 have hlen:i < σ.length:=by have:=R.rep.len;unfold dropV at this;rw[List.length_map]at this;omega
 refine⟨R.kp.trans (.of S'),?_,fun j t' u e=>?_,fun q z=>?_,fun q z=>?_⟩
 ·have:=(R.rep.mono S').away (i:=i) (x:=some v)
  unfold dropV at this ⊢
  rw[map_sput]
  exact this
 ·by_cases hj:i=j
  ·subst hj
   rw[sget_same hi]at e
   cases e
   exact⟨List.getElem?_set_self hlen,g⟩
  ·rw[sget_ne hj]at e
   obtain⟨a,g'⟩:=R.vat j t' u e
   rw[List.getElem?_set_ne hj]
   exact⟨a,g'.like (.same S) (fun q o xs _ e=>S _ _ e) hg⟩
 ·rcases hn q z with z|z
  ·exact R.new q z
  ·exact R.same0.free z.1
 ·rcases hn q z with z|z
  ·obtain⟨o,ws,e⟩:=R.fz q z
   exact⟨o,ws,S _ _ e⟩
  ·exact z.2
end
section
variable {X:Cx} {e b c:Expr} {es:List Expr} {wa wb w:WE} {ws:WA} {ua:WT} {t u:WS} {pos:Pos} {st:Stmt} {rest a d:List Stmt}
mutual
theorem grep_noL{K:PySem.W.Frag}{H:Hp}{G:Addr->Prop}:∀{t:T}{v:V},TL.noL t=true->Rep K H t v->GRep K H G t v
 | .non,v,_,h=>by rw[GRep];rw[rep_non]at h;exact h
 | .bl b,v,_,h=>by rw[GRep];rw[rep_bl]at h;exact h
 | .int i,v,_,h=>by rw[GRep];rw[rep_int]at h;exact h
 | .str x,v,_,h=>by rw[GRep];rw[rep_str]at h;exact h
 | .tup ts,v,n,h=>by
  rw[GRep]
  rw[rep_tup]at h
  obtain⟨p,vs,e,s,r⟩:=h
  exact⟨p,vs,e,s,grep_noLs (by simpa only [TL.noL] using n) r⟩
 | .lst ts,v,n,h=>by simp[TL.noL]at n
 | .dct,v,n,h=>by simp[TL.noL]at n
 | .exc _,v,n,h=>by simp[TL.noL]at n
 | .exf _ _ _,v,n,h=>by simp[TL.noL]at n
 | .dic _ _,v,n,h=>by simp[TL.noL]at n
theorem grep_noLs{K:PySem.W.Frag}{H:Hp}{G:Addr->Prop}:∀{ts:List T}{vs:List V},TL.noLs ts=true->Reps K H ts vs->GReps K H G ts vs
 | [],vs,_,h=>by rw[GReps];rw[reps_nil]at h;exact h
 | t::ts,vs,n,h=>by
  rw[GReps]
  rw[reps_cons]at h
  simp only[TL.noLs,Bool.and_eq_true]at n
  obtain⟨v,r,e,a,b⟩:=h
  exact⟨v,r,e,grep_noL n.1 a,grep_noLs n.2 b⟩
end
def wNL(w:WE):WE:=fun τ Q=>w τ (lstQ fun us=>TL.noLs us=true/\Q (.lst us))
def sBornD(i:Nat)(w:WE):WS:=fun D τ=>i < τ.length/\w τ fun t=>∀v,D.nx (sput τ i (.vat t v))
def sBornC(i j:Nat)(S:SpT):WS:=fun D τ=>i < τ.length/\match sget τ j with
 | .vat (.lst [a,b]) _=>S [a,b] fun t=>nD t=true/\∀v,D.nx (sput τ i (.vat t v))
 | _=>False
end
section
variable {X:Cx} {e b:Expr} {pos:Pos}
end
def sScrap(i jn jh:Nat):WS:=fun D τ=>match sget τ i with
 | .vat (.tup [_,.lst us,.lst rows]) _=>(us.length<=300/\rows.length<=300/\∀t∈rows,∃(ns:List Int) (h:T),t=.tup [.lst (ns.map T.int),h]/\ns.length<=300)/\(jn≠jh/\i≠jn/\i≠jh/\jn < τ.length/\jh < τ.length)/\D.nx (sput (sput (dropV τ) jn .no) jh .no)
 | _=>False
structure SC(K:PySem.W.Frag)(H0 Hs H:Hp)(σ:St)(τ1:List Slot)(G:Addr->Prop)(i:Nat)(n:Nat)(H':Hp)(σ':St):Prop where
 kp:Kp Hs (hidH H' G)
 rep:RepSt K H0 (hidH H' G) σ' τ1
 out:∀b,¬ G b->H' b=H b
 fz:∀q,G q->∃o ws o0 ws0,H' q=some (.frz o (.lst ws))/\H q=some (.frz o0 (.lst ws0))/\ws.length<=ws0.length + n
 at_i:σ'[i]?=σ[i]?
section
variable {K:PySem.W.Frag} {H0 Hs H H':Hp} {σ σ':St} {τ1:List Slot} {G:Addr->Prop} {i n:Nat}
theorem SC.like(S:SC K H0 Hs H σ τ1 G i n H' σ'):LikeT K H H':=LikeT.but (F:=G) (fun q g=>by obtain⟨_,_,o,ws,_,e,_⟩:=S.fz q g;exact .inr ⟨o,ws,e⟩) S.out
theorem SC.write{q:Addr}{ws:List V}{o o':Obj}{c:V}(S:SC K H0 Hs H σ τ1 G i n H' σ')(g:G q)(e:H' q=some (.frz o (.lst ws))):SC K H0 Hs H σ τ1 G i (n + 1) (upd H' q (.frz o' (.lst (ws++[c])))) σ':=by
 have hh:hidH (upd H' q (.frz o' (.lst (ws++[c])))) G=hidH H' G:=hid_upd g
 refine⟨by rw[hh];exact S.kp,by rw[hh];exact S.rep,fun b nb=>?_,fun b gb=>?_,S.at_i⟩
 ·rw[upd_ne fun z=>nb (by rw[z];exact g)]
  exact S.out b nb
 ·obtain⟨o1,w1,o0,w0,e1,e2,l⟩:=S.fz b gb
  by_cases z:b=q
  ·subst z
   rw[e1]at e
   cases e
   exact⟨o',_,o0,w0,upd_same,e2,by simp;omega⟩
  ·exact⟨o1,w1,o0,w0,by rw[upd_ne z];exact e1,e2,by omega⟩
theorem SC.set{j:Nat}{x:Option V}(S:SC K H0 Hs H σ τ1 G i n H' σ')(hj:i≠j)(h0:sget τ1 j=.no):SC K H0 Hs H σ τ1 G i n H' (σ'.set j x):=by
 have:=S.rep.away (i:=j) (x:=x)
 rw[show sput τ1 j .no=τ1 by rw[← h0];exact sput_self τ1 j]at this
 exact⟨S.kp,this,S.out,S.fz,by rw[List.getElem?_set_ne (Ne.symm hj)];exact S.at_i⟩
end
section
variable {X:Cx} {e1 e2 e3:Expr} {pos:Pos}
end
end TL
end
section
namespace TL
open PySem PySem.Spec PyProof PyProof.Rows L2
section
variable {X:Cx} {e b a:Expr} {wa wb w:WE} {pos:Pos}
def iDic(w:WE):WI:=fun τ Q=>w τ fun t=>match t with
 | .dic ks _=>Q (ks.map T.int)
 | _=>False
def rIxDT(x y:T)(Q:T->Prop):Prop:=match x,y with
 | .dic ks ts,.int k=>ks.Nodup/\∃(j:Nat) (t:T),ks[j]?=some k/\ts[j]?=some t/\Q t
 | _,_=>False
end
abbrev RL:=Int×List Int×Addr
abbrev rlK(r:RL):IntP:=(r.1,.ref r.2.2)
structure DL(H0 H:Hp)(d:Addr)(rs:List RL):Prop where
 dict:H d=some (.dK ((rs.map rlK).map toK))
 lst:∀r∈rs,H r.2.2=some (.lst (r.2.1.map V.int))
 nd:(rs.map (·.2.2)).Nodup
 new:∀r∈rs,H0 r.2.2=none
section
variable {K:PySem.W.Frag} {H0 H H':Hp} {d:Addr} {rs:List RL}
theorem DL.mono(D:DL H0 H d rs)(S:Same H H'):DL H0 H' d rs:=⟨S _ _ D.dict,fun r m=>S _ _ (D.lst r m),D.nd,D.new⟩
theorem DL.ne(D:DL H0 H d rs):∀r∈rs,r.2.2≠d:=fun r m z=>by have:=D.lst r m;rw[z,D.dict]at this;cases this
theorem valK_none{rs:List RL}{h:Int}(n:h∉rs.map (·.1)):L2.valV ((rs.map rlK).map toK) (Sum.inl h)=none:=by
 cases e:L2.valV ((rs.map rlK).map toK) (Sum.inl h) with
 | none=>rfl
 | some v =>
  have:=valV_in e
  rw[List.map_map,List.map_map]at this
  obtain⟨r,m,z⟩:=List.mem_map.mp this
  exact absurd (List.mem_map.mpr ⟨r,m,Sum.inl.inj (show (Sum.inl r.1:Key)=Sum.inl h from z)⟩) n
theorem DL.add{q:Addr}{h:Int}(D:DL H0 H d rs)(hq:H q=none)(h0:H0 q=none)(n:h∉rs.map (·.1)):DL H0 (upd (upd H q (.lst [])) d (.dK (putK ((rs.map rlK).map toK) (Sum.inl h) (.ref q)))) d (rs++[(h,[],q)]):=by
 have nd:q≠d:=fun z=>by rw[z,D.dict]at hq;cases hq
 have nq:∀r∈rs,r.2.2≠q:=fun r m z=>by have:=D.lst r m;rw[z,hq]at this;cases this
 refine⟨?_,fun r m=>?_,?_,fun r m=>?_⟩
 ·rw[upd_same,putK_new _ (valK_none n),List.map_append,List.map_append]
  rfl
 ·rcases List.mem_append.mp m with m|m
  ·rw[upd_ne (D.ne r m),upd_ne (nq r m)]
   exact D.lst r m
  ·rw[List.mem_singleton.mp m,upd_ne nd]
   exact upd_same
 ·rw[List.map_append]
  refine List.nodup_append.mpr ⟨D.nd,by simp,fun a ma b mb=>?_⟩
  rw[List.mem_singleton.mp mb]
  obtain⟨r,m,z⟩:=List.mem_map.mp ma
  rw[← z]
  exact nq r m
 ·rcases List.mem_append.mp m with m|m
  ·exact D.new r m
  ·rw[List.mem_singleton.mp m]
   exact h0
end
abbrev dicT(ps:List (Int×List Int)):T:=.dic (ps.map (·.1)) (ps.map fun p=>.lst (p.2.map T.int))
def innT(jn:Nat)(ut:WT):List T->List Int->(List Int->List Slot->Prop)->List Slot->Prop
 | [],us,Q,τ=>Q us τ
 | t::ns,us,Q,τ=>match t with
  | .int n=>us.length < 1000/\ut (sput τ jn (.val (.int n))) fun b=>innT jn ut ns (if b then us++[n] else us) Q (sput τ jn (.val (.int n)))
  | _=>False
def readsT(jh jd jn:Nat)(wi2:WI)(ut:WT):List T->List (Int×List Int)->(List (Int×List Int)->Prop)->List Slot->Prop
 | [],ps,Q,_=>Q ps
 | t::ts,ps,Q,τ=>match t with
  | .tup [.int h,x]=>(h∉ps.map (·.1)/\ps.length < 1000)/\wi2 (sput (sput τ jh (.val (.int h))) jd (.val x)) fun ns=>innT jn ut ns [] (fun us τ2=>readsT jh jd jn wi2 ut ts (ps++[(h,us)]) Q τ2) (sput (sput τ jh (.val (.int h))) jd (.val x))
  | _=>False
def sReads(i jh jd jn:Nat)(wi wi2:WI)(ut:WT):WS:=fun D τ=>(i < τ.length/\jh < τ.length/\jn < τ.length/\(∀j,lone1 (sget τ j)=true))/\wi (sput τ i .no) fun ts=>readsT jh jd jn wi2 ut ts [] (fun ps=>D.rt (dicT ps)) (sput τ i .no)
section
variable {X:Cx}
end
end TL
end
section
namespace TL
open PySem PySem.Spec PyProof.Rows L2
section
variable {X:Cx} {e b c:Expr} {es:List Expr} {w:WE} {ws:WA} {pos:Pos} {st:Stmt}
def sBornN(i:Nat)(S:SpT)(ws:WA):WS:=fun D τ=>i < τ.length/\ws τ fun ts=>TL.noLs ts=true/\S ts fun t=>nD t=true/\∀v,D.nx (sput τ i (.vat t v))
def sScrapA(i:Nat):WS:=fun D τ=>match sget τ i with
 | .vat (.lst us) _=>us.length < 1000/\D.nx (dropV τ)
 | _=>False
end
end TL
end
section
namespace TL
open PySem PySem.Spec PyProof.Rows L2
section
variable {X:Cx} {e a b c:Expr} {es:List Expr} {wa wb w:WE} {ws:WA} {ua:WT} {t u:WS} {pos:Pos} {st:Stmt} {rest d f:List Stmt}
theorem jf_frz{T0:TE}(hp:PE X e T0)(br:∀τ (Q0:List T->Prop) σ H,RepSt X.K X.H₀ H σ τ->w τ (lstQ Q0)->T0 σ H (fun v H'=>∃us p o ys H1,v=.ref p/\H'=upd H1 p (.frz o (.lst ys))/\Same H H1/\H1 p=none/\Reps X.K H1 us ys/\Q0 us)):JF X e w:=by
 intro pins s σ H Q I ⟨τ,Q0,R,hw,k⟩
 refine thn (hp pins s σ H _ I (br τ Q0 σ H R hw)) fun u s1 ⟨v,H2,I2,rv,us,p,o,ys,H1,e1,e2,S1,hn,rr,q⟩=>?_
 subst e1 e2
 have hH:H p=none:=S1.free hn
 have h0:X.H₀ p=none:=R.same.free hH
 have I3:=Inv.unfreeze I2 upd_same h0
 rw[upd_upd]at I3
 have sm:Same H (upd H1 p (.lst ys)):=S1.trans (same_new hn _)
 exact⟨.ref p,_,I3,rv,k us p ys _ sm h0 hH upd_same (rr.kp (.of (same_new hn _))) q⟩
theorem jf_lst(h:JA X es ws):JF X (.List es pos) (wLst ws):=jf_frz (pe_lstF h) fun τ Q0 σ H R hw=>⟨τ,_,R,hw,fun ts vs H1 S1 r ⟨hl,q⟩ =>
 ⟨by rw[r.length];exact few hl,fun p o hp=>⟨ts,p,o,vs,H1,rfl,rfl,S1,hp,r,q⟩⟩⟩
theorem jf_cat(ha:JE X a wa)(hb:JE X b wb):JF X (.BinOp a .Add b pos) (w2 rCatLT wa wb):=jf_frz (pe_op op_seqCat ha hb) fun τ Q0 σ H R hw =>
 ⟨τ,_,R,hw,fun t1 v1 H1 S1 r1 q1=>⟨τ,_,R.mono S1,q1,fun t2 v2 H2 S2 r2 q2=>by
  have r1:=r1.kp (.of S2)
  unfold rCatLT at q2
  split at q2
  ·rw[rep_lst]at r1 r2
   obtain⟨p,vs,rfl,sq,rr⟩:=r1
   obtain⟨p',vs',rfl,sq',rr'⟩:=r2
   exact⟨p,p',vs,vs',rfl,rfl,by rw[rr.length,rr'.length];exact few q2.1,.inl ⟨sq.sq,sq'.sq,fun l o hl=>⟨_,l,o,_,H2,rfl,rfl,S1.trans S2,hl,rr.append rr',q2.2⟩⟩⟩
  ·exact q2.2.elim
  ·exact q2.elim⟩⟩
theorem jf_call{k:Nat}{ps:List Str}{S:SpO}{x:Str}{p:Pos}(C:CalO X.prog X.w X.K X.mg X.base k x ps S)(hr:Room k X.A)(hg:Gl X x)(ha:JA X (e::es) ws)
  (hdb:(x==("__debug__" : Str))=false:=by decide) (he:starEach (e::es) X.env=(false,eval e X.env)::starEach es X.env:=by exact star1 rfl) (hpl:(backTo pos (starEach es X.env)).any (·.1)=false:=by exact stars rfl) :
  JF X (.Call (.Name x p) (e::es) [] pos) (wCall (frO S) ws):=by
 obtain⟨f,fd,F,hb,hk,hm⟩:=C
 refine pe_of (pe_call F.ok hr hg hm hk hb .nil pass0 ha hdb he hpl) fun σ H Q ⟨τ,Q0,R,hw,kk⟩=>?_
 refine⟨τ,_,R,hw,fun ts vs H1 S1 r1 q1=>?_⟩
 have e0:vs++[]=vs:=List.append_nil vs
 show spO X.K ps.length S (vs++[]) H1 _ E0
 rw[e0]
 exact⟨ts,_,by rw[r1.length];exact F.len _ _ q1,r1,q1,fun us q ws' H' S2 h0 hp rr n=>kk us q ws' H' (S1.trans S2) ((R.same.trans S1).free h0) (S1.free h0) hp rr n⟩
def upLN(K:PySem.W.Frag)(H0:Hp)(w:WS):TS:=fun D σ H=>∃(τ:List Slot) (D0:DT),RepSt K H0 H σ τ/\w D0 τ ∧
 (∀τ' σ' H',Kp H H'->RepSt K H0 H' σ' τ'->D0.nx τ'->D.nx σ' H')/\(∀us p ws H',Same H0 H'->H0 p=none->H' p=some (.lst ws)->Reps K H' us ws->D0.rt (.lst us)->D.rt (.ref p) H')
def JLN(X:Cx)(st:Stmt)(w:WS):Prop:=PS X st (upLN X.K X.H₀ w)
def JLNs(X:Cx)(st:List Stmt)(w:WS):Prop:=PSs X st (upLN X.K X.H₀ w)
theorem jln_nil:JLNs X [] sNext:=pss_of pss_nil fun D σ H ⟨τ,D0,R,hw,k,_⟩=>k τ σ H (.refl H) R hw
theorem jln_1(h:JLN X st t):JLNs X [st] t:=pss_of (pss_one h) fun D σ H z=>z
theorem jln_c(h1:JLN X st t)(h2:JLNs X rest u):JLNs X (st::rest) (sSeq t u):=pss_of (pss_cons h1 h2) fun D σ H ⟨τ,D0,R,hw,kn,kr⟩ =>
 ⟨τ,_,R,hw,fun τ' σ' H' K1 R' q=>⟨τ',D0,R',q,fun τ2 σ2 H2 K2 R2 q2=>kn τ2 σ2 H2 (K1.trans K2) R2 q2,kr⟩,kr⟩
theorem jln_s(h:JS X st t):JLN X st (sNoR t):=ps_of h fun D σ H ⟨τ,D0,R,hw,kn,kr⟩=>⟨τ,_,R,hw,kn,fun t v H' S r n=>n.elim,fun τ' σ' H' _ R n=>n.elim,fun τ' σ' H' _ R n=>n.elim⟩
theorem jln_if(hc:JT X c ua)(ha:JLNs X d t)(hb:JLNs X f u):JLN X (.If c d f pos) (sIf ua t u):=ps_of (ps_if hc ha hb) fun D σ H ⟨τ,D0,R,hw,kn,kr⟩=>by
 refine⟨τ,_,R,hw,fun k H1 S1 q=>?_⟩
 cases k with
 | true=>exact⟨τ,D0,R.mono S1,q.1 rfl,fun τ' σ' H' K1 R' n=>kn τ' σ' H' ((Kp.of S1).trans K1) R' n,kr⟩
 | false=>exact⟨τ,D0,R.mono S1,q.2 rfl,fun τ' σ' H' K1 R' n=>kn τ' σ' H' ((Kp.of S1).trans K1) R' n,kr⟩
theorem jln_frz(i:Nat){sts:List Stmt}(h:JLNs X sts t):JLNs X sts (sFrz i t):=by
 intro pins s σ H D I hw
 obtain⟨τ,D0,R,hw,kn,kr⟩:=hw
 unfold sFrz at hw
 cases own:sget τ i with
 | no=>rw[own]at hw;exact hw.elim
 | val t=>rw[own]at hw;exact hw.elim
 | see t=>rw[own]at hw;exact hw.elim
 | dic t=>rw[own]at hw;exact hw.elim
 | vat t v=>rw[own]at hw;exact hw.elim
 | own ts =>
  rw[own]at hw
  have sl:=R.slot i
  rw[own]at sl
  obtain⟨p,vs,ev,hp,rr,n0⟩:=sl
  obtain⟨o,I'⟩:=Inv.freeze I hp
  have K1:=Kp.write hp (.frz o (.lst vs))
  exact h pins s σ _ D I' ⟨_,D0,R.freeze own ev hp rr,hw,fun τ2 σ2 H2 K2 R2 q2=>kn τ2 σ2 H2 (K1.trans K2) R2 q2,kr⟩
def sRetF(w:WE):WS:=fun D τ=>w τ (lstQ fun us=>D.rt (.lst us))
theorem jln_ret(h:JF X e w):JLN X (.Return (some e) pos) (sRetF w):=ps_of (ps_ret h) fun D σ H ⟨τ,D0,R,hw,kn,kr⟩ =>
 ⟨τ,_,R,hw,fun us p ws H' S h0 _ hp rr q=>kr us p ws H' (R.same.trans S) h0 hp rr q⟩
end
theorem fnLN{P:Program}{w:World}{K:PySem.W.Frag}{mg:Str->Option Value}{base:Heap}{x qual:Str}{st:Stmt}{f:Addr}{fd:FuncData}{N ps:List Str}{k:Nat}{S:SpO}{W:WS}(F:Fun K x qual st f fd)(SC:FnScope N ps (defScope st))
  (hlen:∀ts Q,S ts Q->ts.length=ps.length)
  (hbody:∀(cdv:Value)(A:Around)(outer:List Env)(s:Shared)(H:Hp)(E:XK),Room k (A.deeper (envOfC qual (defScope st) s.heap.objs.size f cdv))->JLNs (cxOf CX0 P w K mg base N qual (defScope st) f cdv A outer s H E).nox (defBody st) W)
  (hw:∀ts Q,S ts Q->W {nx:=fun _=>False,rt:=lstQ Q} (startT N.length ts)):FnO P w K mg base (k + 1) f fd ps S:=by
 refine⟨F.ok SC (fun vs H Q E h=>?_) (fun cdv A outer s H vs Q E hr h=>?_),hlen⟩
 ·obtain⟨_,_,e,_⟩:=h
  exact e
 obtain⟨ts,Q0,e,r,hS,q⟩:=h
 exact⟨_,hbody cdv A outer s H E hr,startT N.length ts,_,repSt_start r,hw ts Q0 hS,fun τ' σ' H' _ R n=>n.elim,fun us p ws H' S h0 hp rr n=>q us p ws H' S h0 hp rr n⟩
section
variable {X:Cx} {e c ey:Expr} {ea eb:List Expr} {wy we:WE} {wa wb:WA} {ua:WT} {u:WS} {pos:Pos} {rest:List Stmt}
theorem set_listF:PSet X (fun o i v H Q=>∃p xs k j ob,o=.ref p/\i=.int k/\H p=some (.frz ob (.lst xs))/\X.H₀ p=none/\ixN xs.length k=some j/\∀o',Q (upd H p (.frz o' (.lst (xs.set j v))))):=by
 intro pins s σ H o i v ov iv u Q I ro ri rv ⟨p,xs,k,j,ob,e1,e2,hp,h0,hj,q⟩
 have I1:=Inv.unfreeze I hp h0
 refine thn (set_list pins s σ _ o i v ov iv u (fun H'=>H'=upd H p (.lst (xs.set j v))) I1 ro ri rv ⟨p,xs,k,j,e1,e2,upd_same,hj,by rw[upd_upd]⟩) fun _ s1 ⟨H1,I2,e3⟩=>?_
 subst e3
 obtain⟨o',I3⟩:=Inv.freeze I2 (upd_same (o:=.lst (xs.set j v)))
 rw[upd_upd]at I3
 exact⟨_,I3,q o'⟩
def sBox(i j:Nat)(wa wb:WA)(ua:WT)(wy we:WE):WS:=fun D τ=>i < τ.length/\wa τ fun a=>a.length<=1000/\wb τ fun b=>b.length<=1000/\0 < b.length ∧
 ua (sput τ i (.val (.lst [.lst a,.lst b]))) fun k=>(k=true->wy (sput τ i (.val (.lst [.lst a,.lst b]))) fun y=>noL y=true ∧
  we (sput (sput τ i (.val (.lst [.lst a,.lst b]))) j (.val y)) fun t=>noL t=true/\D.nx (sput (sput τ i (.val (.lst [.lst a,.lst (b.set 0 t)]))) j (.val y))) ∧
  (k=false->D.nx (sput τ i (.val (.lst [.lst a,.lst b]))))
theorem jbox{i j:Nat}{x y:Str}{px py pt p1 p2 p3 pa pb pl pc pd ps pif:Pos}{k1 k0}(hij:i≠j)(hN:X.N.Nodup)(hi:X.N[i]?=some x)(hx:Loc X.env.scope x)(hj:X.N[j]?=some y)(hy:Loc X.env.scope y)(hv:PE X (.Name x pt) (tVar i))
  (ha:JA X ea wa) (hb:JA X eb wb) (hc:JT X c ua) (hey:JE X ey wy) (he:JE X e we) (hr:JSs X rest u)
  (hA:∀v,assign (.Subscript (.Subscript (.Name x pt) (.Constant (.int 1) k1 p1) p2) (.Constant (.int 0) k0 p3) ps) X.env v=(do
   let ov ← holding [v] (eval (.Subscript (.Name x pt) (.Constant (.int 1) k1 p1) p2) X.env)
   let iv ← holding [v,ov] (eval (.Constant (.int 0) k0 p3) X.env)
   standAt ps
   holding [v,ov,iv] (setItem ov iv v)
   release [v,ov,iv] []):=by intro _;rfl)
  (hs1:swapsWith (.List [.List ea pa,.List eb pb] pl) (some (.Name x px)) pos.line X.env=pure false:=by rfl)
  (hs2:swapsWith ey (some (.Name y py)) pc.line X.env=pure false:=by rfl)
  (hs3:swapsWithSole [.Subscript (.Subscript (.Name x pt) (.Constant (.int 1) k1 p1) p2) (.Constant (.int 0) k0 p3) ps] e pd.line X.env=pure false:=by rfl)
  (hw3:swappedStores [.Subscript (.Subscript (.Name x pt) (.Constant (.int 1) k1 p1) p2) (.Constant (.int 0) k0 p3) ps] e X.env=pure none:=by rfl)
  (h13:(assignEach [.Subscript (.Subscript (.Name x pt) (.Constant (.int 1) k1 p1) p2) (.Constant (.int 0) k0 p3) ps] X.env).map (·.2)=[assign (.Subscript (.Subscript (.Name x pt) (.Constant (.int 1) k1 p1) p2) (.Constant (.int 0) k0 p3) ps) X.env]:=by rfl)
  (st1:starEach [.List ea pa,.List eb pb] X.env=(false,eval (.List ea pa) X.env)::starEach [.List eb pb] X.env:=by rfl) (st2:starEach [.List eb pb] X.env=(false,eval (.List eb pb) X.env)::starEach [] X.env:=by rfl)
  (hf:X.fn x=true∨X.env.scope.names.lookup x=some .local:=by first|exact .inl rfl|exact .inr rfl|assumption) (hfy:X.fn y=true∨X.env.scope.names.lookup y=some .local:=by first|exact .inl rfl|exact .inr rfl|assumption) :
  JSs X (.Assign [.Name x px] (.List [.List ea pa,.List eb pb] pl) pos :: .If c [.Assign [.Name y py] ey pc,.Assign [.Subscript (.Subscript (.Name x pt) (.Constant (.int 1) k1 p1) p2) (.Constant (.int 0) k0 p3) ps] e pd] [] pif::rest) (sSeq (sBox i j wa wb ua wy we) u):=by
 refine pss_of (pss_cons (ps_set hN hi hx (pe_lstF (pa_cons (pe_lstF ha) (pa_cons (pe_lstF hb) pa_nil st2) st1)) hs1 hf) (pss_cons (ps_if hc (pss_cons (ps_set hN hj hy hey hs2 hfy) (pss_one (ps_asg he (pg_sub (pe_ix ix_list hv pe_int (fun _ _=>rfl)) pe_int set_listF hA) hs3 hw3 h13))) pss_nil) hr)) ?_
 intro D σ H ⟨τ,D0,R,⟨hl,hw⟩,kn,kr,kb,kc⟩
 refine⟨τ,_,R,hw,fun ta va Ha Sa ra ⟨l1,qa⟩=>?_⟩
 have R1:=R.mono Sa
 refine⟨by rw[ra.length];exact few l1,fun q1 o1 h1=>⟨τ,_,R1.mono (same_new h1 _),qa,fun tb vb Hb Sb rb ⟨l2,l3,qb⟩=>⟨by rw[rb.length];exact few l2,fun q2 o2 h2=>?_⟩⟩⟩
 have S1:Same Ha (upd Ha q1 (.frz o1 (.lst va))):=same_new h1 _
 have S2:Same Hb (upd Hb q2 (.frz o2 (.lst vb))):=same_new h2 _
 have Rb:=R1.mono (S1.trans Sb)
 have raB:=ra.kp (.of (S1.trans Sb))
 have e1:Hb q1=some (.frz o1 (.lst va)):=Sb _ _ upd_same
 refine⟨few (by show 2<=1000;decide),fun p o hp=>?_⟩
 have S3:Same (upd Hb q2 (.frz o2 (.lst vb))) (upd (upd Hb q2 (.frz o2 (.lst vb))) p (.frz o (.lst [.ref q1,.ref q2]))):=same_new hp _
 generalize eH:upd (upd Hb q2 (.frz o2 (.lst vb))) p (.frz o (.lst [.ref q1,.ref q2]))=H3 at S3
 have hp3:H3 p=some (.frz o (.lst [.ref q1,.ref q2])):=by rw[← eH];exact upd_same
 have hq2:H3 q2=some (.frz o2 (.lst vb)):=S3 _ _ upd_same
 have S23:=S2.trans S3
 have hq1:H3 q1=some (.frz o1 (.lst va)):=S23 _ _ e1
 have n21:q1≠q2:=fun z=>by rw[z,h2]at e1;cases e1
 have n2p:p≠q2:=fun z=>by rw[z,upd_same]at hp;cases hp
 have H0q:X.H₀ q2=none:=Rb.same.free h2
 have rep0:∀{H':Hp}{va' vb':List V}{ta' tb':List T}{oa ob oc},H' p=some (.frz oc (.lst [.ref q1,.ref q2]))->H' q1=some (.frz oa (.lst va'))->H' q2=some (.frz ob (.lst vb'))->Reps X.K H' ta' va'->Reps X.K H' tb' vb'->Rep X.K H' (.lst [.lst ta',.lst tb']) (.ref p):=fun a1 a2 a3 a4 a5 =>
  rep_lst.mpr ⟨p,_,rfl,.inl ⟨_,a1⟩,reps_cons.mpr ⟨_,_,rfl,rep_lst.mpr ⟨q1,_,rfl,.inl ⟨_,a2⟩,a4⟩,reps_cons.mpr ⟨_,_,rfl,rep_lst.mpr ⟨q2,_,rfl,.inl ⟨_,a3⟩,a5⟩,reps_nil.mpr rfl⟩⟩⟩
 have R3:RepSt X.K X.H₀ H3 (σ.set i (some (.ref p))) (sput τ i (.val (.lst [.lst ta,.lst tb]))):=(Rb.mono S23).put (rep0 hp3 hq1 hq2 (raB.kp (.of S23)) (rb.kp (.of S23)))
 have K3:Kp H H3:=.of (((Sa.trans S1).trans Sb).trans S23)
 show upT X.K X.H₀ ua (σ.set i (some (.ref p))) H3 _
 refine⟨_,_,R3,qb,fun k H4 S4 ⟨qt,qf⟩=>?_⟩
 cases k with
 | false=>exact⟨_,D0,R3.mono S4,qf rfl,fun τ2 σ2 H2 K2 R2 q2=>kn τ2 σ2 H2 ((K3.trans (.of S4)).trans K2) R2 q2,kr,fun τ2 σ2 H2 K2 R2 q2=>kb τ2 σ2 H2 ((K3.trans (.of S4)).trans K2) R2 q2,fun τ2 σ2 H2 K2 R2 q2=>kc τ2 σ2 H2 ((K3.trans (.of S4)).trans K2) R2 q2⟩
 | true =>
  refine⟨_,_,R3.mono S4,qt rfl,fun ty vy H5 S5 ry ⟨ny,qy⟩=>?_⟩
  have R5:=(R3.mono (S4.trans S5)).put (i:=j) ry
  refine⟨_,_,R5,qy,fun te ve H6 S6 re ⟨nt,qe⟩=>?_⟩
  have S36:=(S4.trans S5).trans S6
  have hs:((σ.set i (some (.ref p))).set j (some vy))[i]?=some (some (.ref p)):=by
   rw[List.getElem?_set_ne (Ne.symm hij),List.getElem?_set_self (by rw[← R.len];exact hl)]
  refine⟨.ref p,hs,p,[.ref q1,.ref q2],1,.ref q2,rfl,rfl,.inl (.inr ⟨o,S36 _ _ hp3⟩),rfl,q2,vb,0,0,o2,rfl,rfl,S36 _ _ hq2,H0q,?_,fun o'=>?_⟩
  ·have:=rb.length
   unfold ixN
   rw[if_pos (by omega),if_pos (by omega)]
   rfl
  ·have h62:=S36 _ _ hq2
   have SB7:Same Hb (upd H6 q2 (.frz o' (.lst (vb.set 0 ve)))):=fun b ob hb=>by
    rw[upd_ne (fun z=>by rw[z,h2]at hb;cases hb)]
    exact S36 _ _ (S23 _ _ hb)
   have lk:LikeT X.K H6 (upd H6 q2 (.frz o' (.lst (vb.set 0 ve)))):=LikeT.but (F:=(·=q2)) (fun b z=>.inr ⟨o2,vb,by rw[z];exact h62⟩) fun b z=>upd_ne z
   have R7:=((Rb.mono SB7).put (i:=i) (rep0 (by rw[upd_ne n2p];exact S36 _ _ hp3) (by rw[upd_ne n21];exact S36 _ _ hq1) upd_same (raB.kp (.of SB7)) (Reps.set (j:=0) (Rep.noL lk nt re) (rb.kp (.of SB7))))).put (i:=j) (Rep.noL lk ny (ry.kp (.of S6)))
   have K7:Kp H (upd H6 q2 (.frz o' (.lst (vb.set 0 ve)))):=.of (((Sa.trans S1).trans Sb).trans SB7)
   exact⟨_,D0,R7,qe,fun τ2 σ2 H2 K2 R2 q2=>kn τ2 σ2 H2 (K7.trans K2) R2 q2,kr,fun τ2 σ2 H2 K2 R2 q2=>kb τ2 σ2 H2 (K7.trans K2) R2 q2,fun τ2 σ2 H2 K2 R2 q2=>kc τ2 σ2 H2 (K7.trans K2) R2 q2⟩
end
end TL
end
namespace TL
open PySem PySem.Spec PyProof.Rows L2
theorem cpow10(n:Int)(h:0<=n/\n<=1000000):CPow 10 n:=⟨h.1,h.2,by decide⟩
theorem Lim.of{n:Nat}{i:Int}(h1:-(10 ^ n) < i)(h2:i < 10 ^ n):Lim n i:=by
 unfold Lim
 have:((10 ^ n:Nat):Int)=10 ^ n:=by simp
 omega
theorem Lim.bd{n:Nat}{i:Int}(h:Lim n i):-(10 ^ n) < i/\i < 10 ^ n:=by
 unfold Lim at h
 have:((10 ^ n:Nat):Int)=10 ^ n:=by simp
 omega
theorem Lim.mono{m n:Nat}{i:Int}(h:Lim m i)(hn:m<=n):Lim n i:=Nat.lt_of_lt_of_le h (Nat.pow_le_pow_right (by decide) hn)
theorem Lim.mul{m n:Nat}{i j:Int}(a:Lim m i)(b:Lim n j):Lim (m + n) (i * j):=by
 unfold Lim at *
 rw[Int.natAbs_mul,Nat.pow_add]
 exact Nat.mul_lt_mul'' a b
theorem Lim.add{m n:Nat}{i j:Int}(a:Lim m i)(b:Lim n j):Lim (max m n + 1) (i + j):=by
 have a':=a.mono (Nat.le_max_left m n)
 have b':=b.mono (Nat.le_max_right m n)
 unfold Lim at *
 rw[Nat.pow_succ]
 have:=Int.natAbs_add_le i j
 omega
theorem Lim.neg{m:Nat}{i:Int}(a:Lim m i):Lim m (-i):=by
 unfold Lim at *
 rw[Int.natAbs_neg]
 exact a
theorem Lim.sub{m n:Nat}{i j:Int}(a:Lim m i)(b:Lim n j):Lim (max m n + 1) (i - j):=by
 rw[Int.sub_eq_add_neg]
 exact a.add b.neg
theorem Lim.le{m:Nat}{i j:Int}(a:Lim m i)(h:j.natAbs<=i.natAbs):Lim m j:=Nat.lt_of_le_of_lt h a
theorem mulOk{m n:Nat}{i j:Int}(a:Lim m i)(b:Lim n j)(hm:m<=100000:=by decide)(hn:n<=100000:=by decide):MulOk i j:=.inl ⟨m,n,hm,hn,a,b⟩
theorem divOk{n:Nat}{j:Int}(h:j≠0)(b:Lim n j)(hn:n<=2200:=by decide):DivOk j:=⟨h,n,hn,b⟩
theorem fmod_pos{b:Int}(a:Int)(h:0 < b):0<=a.fmod b/\a.fmod b < b:=⟨Int.fmod_nonneg_of_pos a h,Int.fmod_lt_of_pos a h⟩
theorem plain_ints:∀ns:List Int,PyData.canLayAll0 (pds (ns.map T.int))=true
 | []=>by simp[pds,PyData.canLayAll0]
 | n::r=>by simp only[List.map,pds,pd,PyData.canLayAll0,PyData.canLay0,plain_ints r,Bool.and_self]
theorem dep_ints:∀ns:List Int,PyData.depthAll (pds (ns.map T.int))=0
 | []=>by simp[pds,PyData.depthAll]
 | n::r=>by simp only[List.map,pds,pd,PyData.depthAll,PyData.depth,dep_ints r,Nat.max_self]
theorem eqOk_tup(ns ms:List Int):EqOk (.tup (ns.map T.int)) (.tup (ms.map T.int)):=by
 refine⟨by simp only[plain,pd,PyData.canLay0,plain_ints],by simp only[plain,pd,PyData.canLay0,plain_ints],by simp only[dep,pd,PyData.depth,dep_ints];decide⟩
theorem atI0{α:Type}(a:α)(r:List α):atI (a::r) 0=some a:=by
 unfold atI ixN
 rw[if_pos (by decide),if_pos (by simp)]
 rfl
theorem atI1{α:Type}(a b:α)(r:List α):atI (a::b::r) 1=some b:=by
 unfold atI ixN
 rw[if_pos (by decide),if_pos (by simp;omega)]
 rfl
theorem atI2{α:Type}(a b c:α)(r:List α):atI (a::b::c::r) 2=some c:=by
 unfold atI ixN
 rw[if_pos (by decide),if_pos (by simp;omega)]
 rfl
def Within:List Int->List Int->Prop
 | [],[]=>True
 | r::rs,b::bs=>(0<=r/\r < b)/\Within rs bs
 | _,_=>False
theorem Within.snoc:∀{rs bs:List Int}{r b:Int},Within rs bs->0<=r->r < b->Within (rs++[r]) (bs++[b])
 | [],[],r,b,_,h0,h1=>⟨⟨h0,h1⟩,trivial⟩
 | _::_,_::_,r,b,h,h0,h1=>⟨h.1,h.2.snoc h0 h1⟩
 | [],_::_,_,_,h,_,_=>h.elim
 | _::_,[],_,_,h,_,_=>h.elim
theorem Within.length:∀{rs bs:List Int},Within rs bs->rs.length=bs.length
 | [],[],_=>rfl
 | _::_,_::_,h=>by simp[h.2.length]
 | [],_::_,h=>h.elim
 | _::_,[],h=>h.elim
@[elab_as_elim] theorem args0{α:Type}{M:List α->Prop}{us:List α}(hl:us.length=0)(h:M []):M us:=by cases us;exact h;cases hl
@[elab_as_elim] theorem argsS{α:Type}{M:List α->Prop}{us:List α}{n:Nat}(hl:us.length=n + 1)(h:∀a r,r.length=n->M (a::r)):M us:=by cases us;cases hl;exact h _ _ (Nat.succ.inj hl)
@[elab_as_elim] theorem args1{α:Type}{M:List α->Prop}{us:List α}(hl:us.length=1)(h:∀a,M [a]):M us:=argsS (M:=M) hl fun a r hl=>args0 (M:=fun r=>M (a::r)) hl (h a)
@[elab_as_elim] theorem args2{α:Type}{M:List α->Prop}{us:List α}(hl:us.length=2)(h:∀a b,M [a,b]):M us:=argsS (M:=M) hl fun a r hl=>args1 (M:=fun r=>M (a::r)) hl (h a)
@[elab_as_elim] theorem args3{α:Type}{M:List α->Prop}{us:List α}(hl:us.length=3)(h:∀a b c,M [a,b,c]):M us:=argsS (M:=M) hl fun a r hl=>args2 (M:=fun r=>M (a::r)) hl (h a)
local macro_rules|`(tactic| walk_at "tw")=>`(tactic| simp only[sSeq,sNext,sSet,sIf,sRet,sOwn,sApp,sFrz,sAsg,sPar,sFor,sNever,sExpr,sRetN,gT,gsC,gs0,gN,wVar,wC,w2,rAddT,rSubT,rMulT,rDivT,rModT,rPowT,wNeg,wCmp,tCmpT,cLtT,cLeT,cGtT,cGeT,cEqT,cNeT,cIsN,cNotN,wChain,tChainT,tAndT,tOrT,tNotT,tVal,wAndV,wOrV,wNotV,wIfE,aNil,aCons,wTup,wLst,rIxTT,wCB,rLenT,rAbsT,rMaxT,rMinT,rTupleT,isK,noExc,wIsi,wCall,sget,sput,iSeq,iRange1,iRange2,iEnum,iZip,seqOf,zipT,wComp,compT,hide,tTrue,rSumT,intsOf,rAllT,boolsOf,rListT,rCatLT,rMin3T,iRange3,wRev,wRevA,wSl,wo,wo0,rSlTT,cNeE,wOIx,wOLen,tONe,rIxST,rAddST,rMulST,tTruT,cInT,cNotInT,rSortT,strsOf,wDIx,wRepL,sDic,wDis,tNinD,sOwnF,sSetIx,sCatO,iOwn,endO,frO,wFz,tFz,sFzS,vatT,vat1,backT,lone,lone1,noL,noLs,rMulLT,lstQ,wCount,rCountTs,cInTT,sEnt,sLv,sBorn,sSetN,sAppT,sOwnW,frOT,ownsT,endOT,dropV,valV,noV,isV,drop1,val1,iStr,sgnT,cLeS,sNoR,sRetP,sRetO,sRetC,endR,sClrT,allL,sRetM,endM,sSetM,cNotInS,sAug,sExt,pE,paNil,paCons,pTup,pPop,sSetP,sExprP,sAppP,wLRng,wIdx,rIdxT,sOnce,rAnyT,sBornD,sBornC,sScrap,wNL,nD,nDs,sReads,iDic,rIxDT,sBornN,sScrapA,sRetF,sBox,wJoin,rJoinT,rStrT,wSlS,rAddAT,rLenST,sOwnC,Option.map,List.sum_cons,List.sum_nil,rangeT,startT,atI0,atI1,atI2,List.map,List.length_cons,List.length_nil,List.append_nil,List.cons_append,List.nil_append,List.replicate,Nat.reduceAdd,Nat.reduceSub,Nat.reduceLeDiff,Nat.zero_le,Int.reduceToNat,Int.reducePow,Int.reduceMul,Int.reduceAdd,true_and,and_true])
local macro_rules|`(tactic| walk_at "go")=>`(tactic| ((conv=>whnf);repeat (first|(refine And.intro (by first|rfl|exact trivial|decide|exact Nat.le_of_ble_eq_true rfl|exact mulOk (by assumption) (by assumption)|assumption) ?_;conv=>whnf)|(refine And.intro (fun q=>Bool.noConfusion q) (fun _=>?_);conv=>whnf)|(refine And.intro (fun _=>?_) (fun q=>Bool.noConfusion q);conv=>whnf))))
local macro_rules|`(tactic| walk_at "nf1")=>`(tactic| conv=>arg 1;simp only[startT,sput,sget,hide,List.map,List.replicate,List.length_cons,List.length_nil,Nat.reduceAdd,Nat.reduceSub,List.cons_append,List.nil_append,List.append_nil])
local macro_rules|`(tactic| walk_at "nf2")=>`(tactic| conv=>arg 2;simp only[startT,sput,sget,hide,List.map,List.replicate,List.length_cons,List.length_nil,Nat.reduceAdd,Nat.reduceSub,List.cons_append,List.nil_append,List.append_nil])
theorem gcd_step(a b:Int):Int.gcd b (a.fmod b)=Int.gcd a b:=by
 rw[Int.fmod_def,Int.gcd_sub_mul_left_right,Int.gcd_comm]
theorem fmod_abs_lt(a:Int){b:Int}(h:b≠0):(a.fmod b).natAbs < b.natAbs:=by
 rw[Int.fmod_eq_emod]
 have h1:=Int.emod_nonneg a h
 have h2:=Int.emod_lt a h
 by_cases hb:0<=b
 ·rw[if_pos (Or.inl hb)]
  omega
 ·by_cases hd:b ∣ a
  ·rw[if_pos (Or.inr hd),Int.emod_eq_zero_of_dvd hd]
   omega
  ·have h3:a % b≠0:=fun e=>hd (Int.dvd_of_emod_eq_zero e)
   rw[if_neg (by omega)]
   omega
structure Frac(p q a b:Int):Prop where
 pos:0 < q
 cop:Int.gcd p q=1
 eq:p * b=a * q
 top:p.natAbs<=a.natAbs
 bot:q.natAbs<=b.natAbs
theorem frac_mk(a:Int){b f:Int}(hb:b≠0)(hf:(0 < b/\f=(Int.gcd a b:Int))∨(b < 0/\f=-(Int.gcd a b:Int))):Frac (a.fdiv f) (b.fdiv f) a b:=by
 have g0:0 < Int.gcd a b:=Int.gcd_pos_iff.mpr (Or.inr hb)
 have fa:f.natAbs=Int.gcd a b:=by rcases hf with ⟨_,e⟩|⟨_,e⟩<;>rw[e]<;>simp
 have fn:f≠0:=by omega
 have da:f ∣ a:=by
  have:=Int.gcd_dvd_left a b
  rcases hf with ⟨_,e⟩|⟨_,e⟩
  ·rw[e];exact this
  ·rw[e];exact Int.neg_dvd.mpr this
 have db:f ∣ b:=by
  have:=Int.gcd_dvd_right a b
  rcases hf with ⟨_,e⟩|⟨_,e⟩
  ·rw[e];exact this
  ·rw[e];exact Int.neg_dvd.mpr this
 obtain⟨a',ea⟩:=da
 obtain⟨b',eb⟩:=db
 have e1:a.fdiv f=a':=by rw[ea];exact Int.mul_fdiv_cancel_left a' fn
 have e2:b.fdiv f=b':=by rw[eb];exact Int.mul_fdiv_cancel_left b' fn
 rw[e1,e2]
 have bn:b'≠0:=by rintro rfl;rw[Int.mul_zero]at eb;exact hb eb
 have cop:Int.gcd a' b'=1:=by
  have q:Int.gcd a b=f.natAbs * Int.gcd a' b':=by rw[ea,eb,Int.gcd_mul_left]
  rw[fa]at q
  have q':Int.gcd a b * 1=Int.gcd a b * Int.gcd a' b':=by rw[Nat.mul_one];exact q
  exact(Nat.eq_of_mul_eq_mul_left g0 q').symm
 have na:a.natAbs=f.natAbs * a'.natAbs:=by rw[ea,Int.natAbs_mul]
 have nb:b.natAbs=f.natAbs * b'.natAbs:=by rw[eb,Int.natAbs_mul]
 have f1:1<=f.natAbs:=by omega
 refine⟨?_,cop,?_,?_,?_⟩
 ·rcases hf with ⟨hp,e⟩|⟨hn,e⟩
  ·have fp:0 < f:=by omega
   rw[eb]at hp
   rcases Int.lt_trichotomy b' 0 with z|z|z
   ·have:=Int.mul_neg_of_pos_of_neg fp z
    omega
   ·exact absurd z bn
   ·exact z
  ·have fp:f < 0:=by omega
   rw[eb]at hn
   rcases Int.lt_trichotomy b' 0 with z|z|z
   ·have:=Int.mul_pos_of_neg_of_neg fp z
    omega
   ·exact absurd z bn
   ·exact z
 ·rw[ea,eb]
  rw[← Int.mul_assoc,Int.mul_comm a' f]
 ·rw[na];exact Nat.le_mul_of_pos_left _ f1
 ·rw[nb];exact Nat.le_mul_of_pos_left _ f1
theorem low_uniq{p q p' q':Int}(hq:0 < q)(hq':0 < q')(c:Int.gcd p q=1)(c':Int.gcd p' q'=1)(e:p * q'=p' * q):p=p'/\q=q':=by
 have n:p.natAbs * q'.natAbs=p'.natAbs * q.natAbs:=by rw[← Int.natAbs_mul,← Int.natAbs_mul,e]
 have c1:Nat.Coprime q.natAbs p.natAbs:=by
  have:Nat.gcd p.natAbs q.natAbs=1:=c
  exact(Nat.gcd_comm _ _).trans this
 have c2:Nat.Coprime q'.natAbs p'.natAbs:=by
  have:Nat.gcd p'.natAbs q'.natAbs=1:=c'
  exact(Nat.gcd_comm _ _).trans this
 have d1:q.natAbs ∣ q'.natAbs:=c1.dvd_of_dvd_mul_left ⟨p'.natAbs,by rw[n,Nat.mul_comm]⟩
 have d2:q'.natAbs ∣ q.natAbs:=c2.dvd_of_dvd_mul_left ⟨p.natAbs,by rw[← n,Nat.mul_comm]⟩
 have qe:q.natAbs=q'.natAbs:=Nat.dvd_antisymm d1 d2
 have qq:q=q':=by omega
 subst qq
 exact⟨Int.eq_of_mul_eq_mul_right (by omega) e,rfl⟩
mutual
theorem eqT_self:∀t:T,plain t=true->eqT t t=true
 | .non,_=>rfl
 | .bl b,_=>by rw[eqTb];exact beq_self_eq_true b
 | .int i,_=>by rw[eqTe];exact decide_eq_true rfl
 | .str x,_=>by rw[eqTf];exact beq_self_eq_true x
 | .tup ts,h=>by
  simp only[plain,pd,PyData.canLay0]at h
  exact eqTs_self ts h
 | .lst ts,h=>by
  simp only[plain,pd,PyData.canLay0]at h
  exact eqTs_self ts h
 | .dct,h=>by simp[plain,pd,PyData.canLay0]at h
 | .exc _,h=>by simp[plain,pd,PyData.canLay0]at h
theorem eqTs_self:∀ts:List T,PyData.canLayAll0 (pds ts)=true->eqTs ts ts=true
 | [],_=>rfl
 | t::r,h=>by
  simp only[pds,PyData.canLayAll0,Bool.and_eq_true]at h
  rw[eqTj,Bool.and_eq_true]
  exact⟨eqT_self t h.1,eqTs_self r h.2⟩
end
def Pn(n:Nat)(t:T):Prop:=plain t=true/\dep t<=n
theorem Pn.all{n:Nat}:∀{ts:List T},(∀t∈ts,Pn n t)->PyData.canLayAll0 (pds ts)=true/\PyData.depthAll (pds ts)<=n
 | [],_=>by simp[pds,PyData.canLayAll0,PyData.depthAll]
 | t::r,h=>by
  have h1:(pd t).canLay0=true/\(pd t).depth<=n:=h t List.mem_cons_self
  have ih:=Pn.all fun x hx=>h x (List.mem_cons_of_mem _ hx)
  simp only[pds,PyData.canLayAll0,PyData.depthAll,Bool.and_eq_true]
  exact⟨⟨h1.1,ih.1⟩,by omega⟩
theorem Pn.lst{n:Nat}{ts:List T}(h:∀t∈ts,Pn n t):Pn (n + 1) (.lst ts):=by
 have:=Pn.all h
 refine⟨by simp only[plain,pd,PyData.canLay0];exact this.1,?_⟩
 simp only[dep,pd,PyData.depth]
 omega
theorem Pn.tup{n:Nat}{ts:List T}(h:∀t∈ts,Pn n t):Pn (n + 1) (.tup ts):=by
 have:=Pn.all h
 refine⟨by simp only[plain,pd,PyData.canLay0];exact this.1,?_⟩
 simp only[dep,pd,PyData.depth]
 omega
theorem Pn.int(i:Int):Pn 0 (.int i):=by
 refine⟨by simp[plain,pd,PyData.canLay0],by simp[dep,pd,PyData.depth]⟩
theorem Pn.non:Pn 0 .non:=by
 refine⟨by simp[plain,pd,PyData.canLay0],by simp[dep,pd,PyData.depth]⟩
theorem Pn.ok{n m:Nat}{x y:T}(h:Pn n x)(h':Pn m y)(hn:n<=60):EqOk x y:=⟨h.1,h'.1,by have:=h.2;omega⟩
theorem Pn.self{n:Nat}{x:T}(h:Pn n x):eqT x x=true:=eqT_self x h.1
abbrev fra(a b:Int):T:=.tup [.int a,.int b]
structure Rt(p q n m:Int):Prop where
 pos:0 < q
 cop:Int.gcd p q=1
 eq:p * m=n * q
theorem Frac.rt{p q a b:Int}(F:Frac p q a b):Rt p q a b:=⟨F.pos,F.cop,F.eq⟩
theorem mul_cl{a b c:Int}(h:a≠0)(e:a * b=a * c):b=c:=Int.eq_of_mul_eq_mul_left h e
theorem Rt.uniq{p q p' q' n m:Int}(hm:m≠0)(A:Rt p q n m)(B:Rt p' q' n m):p=p'/\q=q':=by
 refine low_uniq A.pos B.pos A.cop B.cop (mul_cl hm ?_)
 have e1:=A.eq
 have e2:=B.eq
 have h1:m * (p * q')=(p * m) * q':=by grind
 have h2:m * (p' * q)=(p' * m) * q:=by grind
 rw[h1,h2,e1,e2]
 grind
theorem Rt.same{p q p' q' n m n' m':Int}(hm:m≠0)(hm':m'≠0)(e:n * m'=n' * m)(A:Rt p q n m)(B:Rt p' q' n' m'):p=p'/\q=q':=by
 refine low_uniq A.pos B.pos A.cop B.cop (mul_cl (Int.mul_ne_zero hm hm') ?_)
 have e1:=A.eq
 have e2:=B.eq
 have h1:m * m' * (p * q')=(p * m) * (m' * q'):=by grind
 have h2:m * m' * (p' * q)=(p' * m') * (m * q):=by grind
 rw[h1,h2,e1,e2]
 have h3:n * q * (m' * q')=(n * m') * (q * q'):=by grind
 rw[h3,e]
 grind
theorem Rt.le{p q n m:Int}(hm:m≠0)(A:Rt p q n m):p.natAbs<=n.natAbs/\q.natAbs<=m.natAbs:=by
 have e:=A.eq
 have hq:=A.pos
 have c1:Nat.Coprime q.natAbs p.natAbs:=by
  have:Nat.gcd p.natAbs q.natAbs=1:=A.cop
  exact(Nat.gcd_comm _ _).trans this
 have en:p.natAbs * m.natAbs=n.natAbs * q.natAbs:=by rw[← Int.natAbs_mul,← Int.natAbs_mul,e]
 have d:q.natAbs ∣ m.natAbs:=c1.dvd_of_dvd_mul_left ⟨n.natAbs,by rw[en,Nat.mul_comm]⟩
 obtain⟨k,hk⟩:=d
 have hm':0 < m.natAbs:=by omega
 have k0:0 < k:=by
  rcases Nat.eq_zero_or_pos k with z|z
  ·rw[z,Nat.mul_zero]at hk;omega
  ·exact z
 have hq':0 < q.natAbs:=by omega
 have en2:n.natAbs=p.natAbs * k:=by
  rw[hk]at en
  have:q.natAbs * (p.natAbs * k)=q.natAbs * n.natAbs:=by rw[Nat.mul_comm q.natAbs n.natAbs,← en,Nat.mul_left_comm]
  exact(Nat.eq_of_mul_eq_mul_left hq' this).symm
 exact⟨by rw[en2];exact Nat.le_mul_of_pos_right _ k0,by rw[hk];exact Nat.le_mul_of_pos_right _ k0⟩
theorem Rt.lp{p q n m:Int}{k:Nat}(hm:m≠0)(A:Rt p q n m)(h:Lim k n):Lim k p:=h.le (A.le hm).1
theorem Rt.lq{p q n m:Int}{k:Nat}(hm:m≠0)(A:Rt p q n m)(h:Lim k m):Lim k q:=h.le (A.le hm).2
theorem Rt.sum{p q p' q' n n' m P R:Int}(A:Rt p q n m)(B:Rt p' q' n' m)(F:Frac P R (p * q' + p' * q) (q * q')):Rt P R (n + n') m:=by
 refine⟨F.pos,F.cop,mul_cl (a:=q * q') (by have:=Int.mul_pos A.pos B.pos;omega) ?_⟩
 have e1:=A.eq
 have e2:=B.eq
 have e3:=F.eq
 clear A B F
 grind
theorem Rt.neg{p q n m w:Int}(hm:0 < m)(A:Rt p q n m):(p * w < 0) ↔ (n * w < 0):=by
 have hq:=A.pos
 have e:(p * w) * m=(n * w) * q:=by have:=A.eq;grind
 constructor
 ·intro h
  have h1:=Int.mul_neg_of_neg_of_pos h hm
  rw[e]at h1
  rcases Int.lt_or_le (n * w) 0 with z|z
  ·exact z
  ·have:=Int.mul_nonneg z (Int.le_of_lt hq);omega
 ·intro h
  have h1:=Int.mul_neg_of_neg_of_pos h hq
  rw[← e]at h1
  rcases Int.lt_or_le (p * w) 0 with z|z
  ·exact z
  ·have:=Int.mul_nonneg z (Int.le_of_lt hm);omega
def frG(n m:Int):Int:=if m < 0 then -(Int.gcd n m:Int) else (Int.gcd n m:Int)
def frN(n m:Int):Int:=n.fdiv (frG n m)
def frD(n m:Int):Int:=m.fdiv (frG n m)
def fr(n m:Int):T:=.tup [.int (frN n m),.int (frD n m)]
theorem fr_frac{n m:Int}(hm:m≠0):Frac (frN n m) (frD n m) n m:=by
 unfold frN frD
 refine frac_mk n hm ?_
 unfold frG
 rcases Int.lt_or_lt_of_ne hm with z|z
 ·exact .inr ⟨z,if_pos z⟩
 ·exact .inl ⟨z,if_neg (by omega)⟩
theorem fr_rt{n m:Int}(hm:m≠0):Rt (frN n m) (frD n m) n m:=(fr_frac hm).rt
theorem fr_of{p q n m:Int}(hm:m≠0)(A:Rt p q n m):fra p q=fr n m:=by
 obtain⟨e1,e2⟩:=A.uniq hm (fr_rt hm)
 rw[e1,e2,fr]
theorem fr_eq{n m n' m':Int}(hm:m≠0)(hm':m'≠0)(e:n * m'=n' * m):fr n m=fr n' m':=by
 obtain⟨e1,e2⟩:=(fr_rt hm).same hm hm' e (fr_rt hm')
 rw[fr,fr,e1,e2]
theorem fr_ne{n m n' m':Int}(hm:m≠0)(hm':m'≠0)(h:frN n m=frN n' m'/\frD n m=frD n' m'):n * m'=n' * m:=by
 have A:=fr_rt (n:=n) hm
 have B:=fr_rt (n:=n') hm'
 have e1:=A.eq
 have e2:=B.eq
 have q0:=A.pos
 rw[← h.1,← h.2]at e2
 generalize frN n m=p at e1 e2
 generalize frD n m=q at e1 e2 q0
 refine mul_cl (a:=q) (by omega) ?_
 have h1:q * (n * m')=(n * q) * m':=by grind
 have h2:q * (n' * m)=(n' * q) * m:=by grind
 rw[h1,h2,← e1,← e2]
 grind
theorem eqOk_fr(a b c d:Int):EqOk (fr a b) (fr c d):=eqOk_tup [frN a b,frD a b] [frN c d,frD c d]
theorem eqT_fr{a b c d:Int}(hb:b≠0)(hd:d≠0):eqT (fr a b) (fr c d)=decide (a * d=c * b):=by
 have:eqT (fr a b) (fr c d)=decide (frN a b=frN c d/\frD a b=frD c d):=by simp[fr,eqT,eqTs]
 rw[this]
 refine decide_eq_decide.mpr ⟨fr_ne hb hd,fun e=>?_⟩
 exact(fr_rt hb).same hb hd e (fr_rt hd)
theorem frN_lim{k:Nat}{n m:Int}(hm:m≠0)(h:Lim k n):Lim k (frN n m):=(fr_rt hm).lp hm h
theorem frD_lim{k:Nat}{n m:Int}(hm:m≠0)(h:Lim k m):Lim k (frD n m):=(fr_rt hm).lq hm h
theorem frD_pos{n m:Int}(hm:m≠0):0 < frD n m:=(fr_rt hm).pos
structure Two(k:Nat)(a b c d:Int):Prop where
 hb:b≠0
 hd:d≠0
 la:Lim k a
 lb:Lim k b
 lc:Lim k c
 ld:Lim k d
theorem Two.mono{k k':Nat}{a b c d:Int}(h:Two k a b c d)(hk:k<=k'):Two k' a b c d:=⟨h.hb,h.hd,h.la.mono hk,h.lb.mono hk,h.lc.mono hk,h.ld.mono hk⟩
theorem fr_sum{a b c d:Int}(hb:b≠0)(hd:d≠0):fr (frN a b * frD c d + frN c d * frD a b) (frD a b * frD c d)=fr (a * d + c * b) (b * d):=by
 have A:=fr_rt (n:=a) hb
 have B:=fr_rt (n:=c) hd
 refine fr_eq (by have:=Int.mul_pos A.pos B.pos;omega) (Int.mul_ne_zero hb hd) ?_
 have e1:=A.eq
 have e2:=B.eq
 generalize frN a b=p at e1 ⊢
 generalize frD a b=q at e1 ⊢
 generalize frN c d=r at e2 ⊢
 generalize frD c d=s at e2 ⊢
 clear A B
 have h1:(p * s + r * q) * (b * d)=(p * b) * (s * d) + (r * d) * (q * b):=by grind
 rw[h1,e1,e2]
 grind
theorem fr_sub{a b c d:Int}(hb:b≠0)(hd:d≠0):fr (frN a b * frD c d - frN c d * frD a b) (frD a b * frD c d)=fr (a * d - c * b) (b * d):=by
 have A:=fr_rt (n:=a) hb
 have B:=fr_rt (n:=c) hd
 refine fr_eq (by have:=Int.mul_pos A.pos B.pos;omega) (Int.mul_ne_zero hb hd) ?_
 have e1:=A.eq
 have e2:=B.eq
 generalize frN a b=p at e1 ⊢
 generalize frD a b=q at e1 ⊢
 generalize frN c d=r at e2 ⊢
 generalize frD c d=s at e2 ⊢
 clear A B
 have h1:(p * s - r * q) * (b * d)=(p * b) * (s * d) - (r * d) * (q * b):=by grind
 rw[h1,e1,e2]
 grind
theorem fr_mul{a b c d:Int}(hb:b≠0)(hd:d≠0):fr (frN a b * frN c d) (frD a b * frD c d)=fr (a * c) (b * d):=by
 have A:=fr_rt (n:=a) hb
 have B:=fr_rt (n:=c) hd
 refine fr_eq (by have:=Int.mul_pos A.pos B.pos;omega) (Int.mul_ne_zero hb hd) ?_
 have e1:=A.eq
 have e2:=B.eq
 generalize frN a b=p at e1 ⊢
 generalize frD a b=q at e1 ⊢
 generalize frN c d=r at e2 ⊢
 generalize frD c d=s at e2 ⊢
 clear A B
 have h1:(p * r) * (b * d)=(p * b) * (r * d):=by grind
 rw[h1,e1,e2]
 grind
theorem frN_ne{c d:Int}(hd:d≠0)(hc:c≠0):frN c d≠0:=fun z=>by
 have e:=(fr_rt (n:=c) hd).eq
 have q:=frD_pos (n:=c) hd
 rw[z,Int.zero_mul]at e
 exact Int.mul_ne_zero hc (by omega) e.symm
theorem fr_quo{a b c d:Int}(hb:b≠0)(hd:d≠0)(hc:c≠0):fr (frN a b * frD c d) (frD a b * frN c d)=fr (a * d) (b * c):=by
 have A:=fr_rt (n:=a) hb
 have B:=fr_rt (n:=c) hd
 have nz:=frN_ne hd hc
 refine fr_eq (Int.mul_ne_zero (by have:=A.pos;omega) nz) (Int.mul_ne_zero hb hc) ?_
 have e1:=A.eq
 have e2:=B.eq
 generalize frN a b=p at e1 ⊢
 generalize frD a b=q at e1 ⊢
 generalize frN c d=r at e2 ⊢
 generalize frD c d=s at e2 ⊢
 clear A B nz
 have h1:(p * s) * (b * c)=(p * b) * (c * s):=by grind
 rw[h1,e1,← e2]
 grind
theorem fr_under{a b c d:Int}(hb:0 < b)(hd:0 < d):(frN a b * frD c d < frN c d * frD a b) ↔ (a * d < c * b):=by
 have A:=fr_rt (n:=a) (m:=b) (by omega)
 have B:=fr_rt (n:=c) (m:=d) (by omega)
 have e1:=A.eq
 have e2:=B.eq
 have q0:=A.pos
 have s0:=B.pos
 generalize frN a b=p at e1 ⊢
 generalize frD a b=q at e1 q0 ⊢
 generalize frN c d=r at e2 ⊢
 generalize frD c d=s at e2 s0 ⊢
 clear A B
 have h1:(p * s) * (b * d)=(a * d) * (q * s):=by
  have e:(p * s) * (b * d)=(p * b) * (s * d):=by grind
  rw[e,e1]
  grind
 have h2:(r * q) * (b * d)=(c * b) * (q * s):=by
  have e:(r * q) * (b * d)=(r * d) * (q * b):=by grind
  rw[e,e2]
  grind
 have bd:=Int.mul_pos hb hd
 have qs:=Int.mul_pos q0 s0
 constructor
 ·intro h
  have:=Int.mul_lt_mul_of_pos_right h bd
  rw[h1,h2]at this
  exact Int.lt_of_mul_lt_mul_right this (Int.le_of_lt qs)
 ·intro h
  have:=Int.mul_lt_mul_of_pos_right h qs
  rw[← h1,← h2]at this
  exact Int.lt_of_mul_lt_mul_right this (Int.le_of_lt bd)
theorem fr_sum1{a c m:Int}(hm:m≠0):fr (a * m + c * m) (m * m)=fr (a + c) m:=fr_eq (Int.mul_ne_zero hm hm) hm (by grind)
theorem fr_sub1{a c m:Int}(hm:m≠0):fr (a * m - c * m) (m * m)=fr (a - c) m:=fr_eq (Int.mul_ne_zero hm hm) hm (by grind)
theorem abs_ite(a:Int):(if a < 0 then -a else a)=(a.natAbs:Int):=by split<;>omega
def isWh:T->Bool
 | .int _=>true
 | _=>false
def Z0B:SpT:=fun ts Q=>∃t,ts=[t]/\noExc t/\Q (.bl (isWh t))
theorem Z2m:∀ts Q,Z0B ts Q->ts.length=1:=by rintro ts Q ⟨_,e,_⟩;subst e;rfl
def Z1v:WS :=
 (sRet (wAndV (wIsi .int (wVar 0)) (wNotV (wIsi .bool (wVar 0)))))
theorem Z2u:∀ts Q,Z0B ts Q->Z1v {nx:=fun _=>Q .non,rt:=Q} (startT 1 ts):=by
 rintro _ Q ⟨t,rfl,ne,h⟩
 unfold Z1v
 walk_at "tw"
 cases t<;>simp[isK,isWh,noExc]at h ne ⊢ <;> exact h
def Z0f:SpT:=fun ts Q=>∃a b:Int,ts=[.int a,.int b]/\Q (.int (Int.gcd a b))
theorem Z1w:∀ts Q,Z0f ts Q->ts.length=2:=by rintro ts Q ⟨_,_,e,_⟩;subst e;rfl
def Z0T:WS :=
 (sSeq (sSet 2 (w2 rModT (wVar 0) (wVar 1)))
  (sSeq (sSet 0 (wVar 1))
  (sSet 1 (wVar 2))))
def Z0L:WS :=
 (sSeq (sWhile (tCmpT cNeT (wVar 1) (wC (.int 0))) Z0T)
  (sRet (wCB rAbsT (aCons (wVar 0) aNil))))
theorem Z1I:∀ts Q,Z0f ts Q->Z0L {nx:=fun _=>Q .non,rt:=Q} (startT 3 ts):=by
 rintro _ Q ⟨a,b,rfl,h⟩
 unfold Z0L
 walk_at "tw"
 refine⟨fun m τ=>∃(x y:Int) (s:Slot),τ=[.val (.int x),.val (.int y),s]/\Int.gcd x y=Int.gcd a b/\m=y.natAbs,⟨_,_,_,_,rfl,rfl,rfl⟩,?_⟩
 rintro m τ ⟨x,y,s,rfl,hg,rfl⟩
 unfold Z0T
 walk_at "tw"
 refine⟨fun c=>?_,fun c=>?_⟩
 ·have c':y≠0:=by simpa using c
  exact⟨c',_,fmod_abs_lt x c',_,_,_,rfl,by rw[gcd_step];exact hg,rfl⟩
 ·have e:y=0:=by simpa using c
  subst e
  rw[Int.gcd_zero_right]at hg
  rw[abs_ite,hg]
  exact h
def Z04:SpT:=fun ts Q=>∃a b:Int,ts=[.int a,.int b]/\b≠0/\Lim 2000 b/\Q (fr a b)
theorem Z2n:∀ts Q,Z04 ts Q->ts.length=2:=by rintro ts Q ⟨_,_,e,_⟩;subst e;rfl
def Z1x:WS :=
 (sRet (wTup (aCons (w2 rDivT (wVar 0) (wVar 2)) (aCons (w2 rDivT (wVar 1) (wVar 2)) aNil))))
def Z1y:WS :=
 (sSeq (sIf (tOrT (tNotT (tVal (wCall Z0B (aCons (wVar 0) aNil)))) (tNotT (tVal (wCall Z0B (aCons (wVar 1) aNil))))) sNever sNext)
  (sSeq (sIf (tCmpT cEqT (wVar 1) (wC (.int 0))) sNever sNext)
  (sSeq (sSet 2 (wCall Z0f (aCons (wVar 0) (aCons (wVar 1) aNil))))
  (sSeq (sIf (tCmpT cLtT (wVar 1) (wC (.int 0))) (sSet 2 (wNeg (wVar 2))) sNext)
  Z1x))))
theorem Z2v:∀ts Q,Z04 ts Q->Z1y {nx:=fun _=>Q .non,rt:=Q} (startT 3 ts):=by
 rintro _ Q ⟨a,b,rfl,hb,lb,h⟩
 simp only[Z1y,Z1x]
 walk_at "tw"
 have g0:0 < Int.gcd a b:=Int.gcd_pos_iff.mpr (Or.inr hb)
 have gl:(Int.gcd a b:Int).natAbs<=b.natAbs:=by
  have d:=Int.gcd_dvd_right a b
  have:=Int.natAbs_dvd_natAbs.mpr d
  exact Nat.le_of_dvd (by omega) this
 refine⟨_,rfl,trivial,?_⟩
 walk_at "tw"
 simp only[isWh]
 refine⟨fun z=>(by cases z),fun _=>⟨_,rfl,trivial,?_⟩⟩
 walk_at "tw"
 simp only[isWh]
 refine⟨fun z=>(by cases z),fun _=>⟨fun c=>hb (of_decide_eq_true c),fun _=>⟨a,b,rfl,?_⟩⟩⟩
 walk_at "tw"
 refine⟨fun c=>?_,fun c=>?_⟩
 ·have c':b < 0:=of_decide_eq_true c
  have dv:DivOk (-(Int.gcd a b:Int)):=divOk (by omega) (lb.le (by omega))
  unfold fr frN frD frG at h
  rw[if_pos c']at h
  exact⟨dv,dv,h⟩
 ·have c':¬ b < 0:=of_decide_eq_false c
  have dv:DivOk (Int.gcd a b:Int):=divOk (by omega) (lb.le gl)
  unfold fr frN frD frG at h
  rw[if_neg c']at h
  exact⟨dv,dv,h⟩
def Z0H:SpT:=fun ts Q=>∃a b c d:Int,ts=[fr a b,fr c d]/\Two 900 a b c d/\Q (fr (a * d + c * b) (b * d))
theorem Z2e:∀ts Q,Z0H ts Q->ts.length=2:=by rintro ts Q ⟨_,_,_,_,e,_⟩;subst e;rfl
def Z1r:WS :=
 (sRet (wCall Z04 (aCons (w2 rAddT (w2 rMulT (w2 rIxTT (wVar 0) (wC (.int 0))) (w2 rIxTT (wVar 1) (wC (.int 1)))) (w2 rMulT (w2 rIxTT (wVar 1) (wC (.int 0))) (w2 rIxTT (wVar 0) (wC (.int 1))))) (aCons (w2 rMulT (w2 rIxTT (wVar 0) (wC (.int 1))) (w2 rIxTT (wVar 1) (wC (.int 1)))) aNil))))
theorem Z2o:∀ts Q,Z0H ts Q->Z1r {nx:=fun _=>Q .non,rt:=Q} (startT 2 ts):=by
 rintro _ Q ⟨a,b,c,d,rfl,⟨hb,hd,la,lb,lc,ld⟩,h⟩
 rw[← fr_sum hb hd]at h
 have q:=Int.mul_pos (frD_pos (n:=a) hb) (frD_pos (n:=c) hd)
 have la:=frN_lim hb la
 have lb:=frD_lim (n:=a) hb lb
 have lc:=frN_lim hd lc
 have ld:=frD_lim (n:=c) hd ld
 unfold Z1r fr
 walk_at "tw"
 exact⟨mulOk la ld,mulOk lc lb,mulOk lb ld,_,_,rfl,by omega,(lb.mul ld).mono (by decide),h⟩
def Z01:SpT:=fun ts Q=>∃a b c d:Int,ts=[fr a b,fr c d]/\Two 900 a b c d/\Q (fr (a * d - c * b) (b * d))
theorem Z27:∀ts Q,Z01 ts Q->ts.length=2:=by rintro ts Q ⟨_,_,_,_,e,_⟩;subst e;rfl
def Z1m:WS :=
 (sRet (wCall Z04 (aCons (w2 rSubT (w2 rMulT (w2 rIxTT (wVar 0) (wC (.int 0))) (w2 rIxTT (wVar 1) (wC (.int 1)))) (w2 rMulT (w2 rIxTT (wVar 1) (wC (.int 0))) (w2 rIxTT (wVar 0) (wC (.int 1))))) (aCons (w2 rMulT (w2 rIxTT (wVar 0) (wC (.int 1))) (w2 rIxTT (wVar 1) (wC (.int 1)))) aNil))))
theorem Z2f:∀ts Q,Z01 ts Q->Z1m {nx:=fun _=>Q .non,rt:=Q} (startT 2 ts):=by
 rintro _ Q ⟨a,b,c,d,rfl,⟨hb,hd,la,lb,lc,ld⟩,h⟩
 rw[← fr_sub hb hd]at h
 have q:=Int.mul_pos (frD_pos (n:=a) hb) (frD_pos (n:=c) hd)
 have la:=frN_lim hb la
 have lb:=frD_lim (n:=a) hb lb
 have lc:=frN_lim hd lc
 have ld:=frD_lim (n:=c) hd ld
 unfold Z1m fr
 walk_at "tw"
 exact⟨mulOk la ld,mulOk lc lb,mulOk lb ld,_,_,rfl,by omega,(lb.mul ld).mono (by decide),h⟩
def Z09:SpT:=fun ts Q=>∃a b c d:Int,ts=[fr a b,fr c d]/\Two 900 a b c d/\Q (fr (a * c) (b * d))
theorem Z20:∀ts Q,Z09 ts Q->ts.length=2:=by rintro ts Q ⟨_,_,_,_,e,_⟩;subst e;rfl
def Z1b:WS :=
 (sRet (wCall Z04 (aCons (w2 rMulT (w2 rIxTT (wVar 0) (wC (.int 0))) (w2 rIxTT (wVar 1) (wC (.int 0)))) (aCons (w2 rMulT (w2 rIxTT (wVar 0) (wC (.int 1))) (w2 rIxTT (wVar 1) (wC (.int 1)))) aNil))))
theorem Z28:∀ts Q,Z09 ts Q->Z1b {nx:=fun _=>Q .non,rt:=Q} (startT 2 ts):=by
 rintro _ Q ⟨a,b,c,d,rfl,⟨hb,hd,la,lb,lc,ld⟩,h⟩
 rw[← fr_mul hb hd]at h
 have q:=Int.mul_pos (frD_pos (n:=a) hb) (frD_pos (n:=c) hd)
 have la:=frN_lim hb la
 have lb:=frD_lim (n:=a) hb lb
 have lc:=frN_lim hd lc
 have ld:=frD_lim (n:=c) hd ld
 unfold Z1b fr
 walk_at "tw"
 exact⟨mulOk la lc,mulOk lb ld,_,_,rfl,by omega,(lb.mul ld).mono (by decide),h⟩
def Z0Q:SpT:=fun ts Q=>∃a b c d:Int,ts=[fr a b,fr c d]/\Two 900 a b c d/\c≠0/\Q (fr (a * d) (b * c))
theorem Z2p:∀ts Q,Z0Q ts Q->ts.length=2:=by rintro ts Q ⟨_,_,_,_,e,_⟩;subst e;rfl
def Z1z:WS :=
 (sRet (wCall Z04 (aCons (w2 rMulT (w2 rIxTT (wVar 0) (wC (.int 0))) (w2 rIxTT (wVar 1) (wC (.int 1)))) (aCons (w2 rMulT (w2 rIxTT (wVar 0) (wC (.int 1))) (w2 rIxTT (wVar 1) (wC (.int 0)))) aNil))))
theorem Z2w:∀ts Q,Z0Q ts Q->Z1z {nx:=fun _=>Q .non,rt:=Q} (startT 2 ts):=by
 rintro _ Q ⟨a,b,c,d,rfl,⟨hb,hd,la,lb,lc,ld⟩,hc,h⟩
 rw[← fr_quo hb hd hc]at h
 have q:=frD_pos (n:=a) hb
 have nz:=frN_ne hd hc
 have la:=frN_lim hb la
 have lb:=frD_lim (n:=a) hb lb
 have lc:=frN_lim hd lc
 have ld:=frD_lim (n:=c) hd ld
 unfold Z1z fr
 walk_at "tw"
 exact⟨mulOk la ld,mulOk lb lc,_,_,rfl,Int.mul_ne_zero (by omega) nz,(lb.mul lc).mono (by decide),h⟩
def Z0m:SpT:=fun ts Q=>∃a b c d:Int,ts=[fr a b,fr c d]/\0 < b/\0 < d/\Two 900 a b c d/\Q (.bl (decide (a * d < c * b)))
theorem Z2q:∀ts Q,Z0m ts Q->ts.length=2:=by rintro ts Q ⟨_,_,_,_,e,_⟩;subst e;rfl
def Z1A:WS :=
 (sRet (wCmp cLtT (w2 rMulT (w2 rIxTT (wVar 0) (wC (.int 0))) (w2 rIxTT (wVar 1) (wC (.int 1)))) (w2 rMulT (w2 rIxTT (wVar 1) (wC (.int 0))) (w2 rIxTT (wVar 0) (wC (.int 1))))))
theorem Z1T:∀ts Q,Z0m ts Q->Z1A {nx:=fun _=>Q .non,rt:=Q} (startT 2 ts):=by
 rintro _ Q ⟨a,b,c,d,rfl,b0,d0,⟨hb,hd,la,lb,lc,ld⟩,h⟩
 have e:decide (a * d < c * b)=decide (frN a b * frD c d < frN c d * frD a b):=decide_eq_decide.mpr (fr_under b0 d0).symm
 rw[e]at h
 have la:=frN_lim hb la
 have lb:=frD_lim (n:=a) hb lb
 have lc:=frN_lim hd lc
 have ld:=frD_lim (n:=c) hd ld
 unfold Z1A fr
 walk_at "tw"
 exact⟨mulOk la ld,mulOk lc lb,h⟩
abbrev Tr:=Int×Int×Int
abbrev Lim3(k:Nat)(u v w:Int):Prop:=Lim k u/\Lim k v/\Lim k w
abbrev LimT(k:Nat)(d:Tr):Prop:=Lim3 k d.1 d.2.1 d.2.2
theorem Lim3.mono{k k':Nat}{a b c:Int}(h:Lim3 k a b c)(hk:k<=k'):Lim3 k' a b c:=⟨h.1.mono hk,h.2.1.mono hk,h.2.2.mono hk⟩
abbrev det(a b c:Tr):Int:=a.1 * (b.2.1 * c.2.2 - b.2.2 * c.2.1) + a.2.1 * (b.2.2 * c.1 - b.1 * c.2.2) + a.2.2 * (b.1 * c.2.1 - b.2.1 * c.1)
abbrev pt(t:Tr)(m:Int):T:=.tup [fr t.1 m,fr t.2.1 m,fr t.2.2 m]
abbrev hpl(h:Tr):T:=.tup [fr h.1 h.2.2,fr h.2.1 h.2.2]
abbrev P2:=Int×Int
def pl(M:Int)(p:P2):T:=.tup [fr p.1 M,fr p.2 M]
def cr(a b:P2):Int:=a.1 * b.2 - b.1 * a.2
structure PsOk(M:Int)(ps:List P2):Prop where
 hM:0 < M
 lM:Lim 30 M
 len:ps.length<=900
 lim:∀p∈ps,Lim 30 p.1/\Lim 30 p.2
theorem at_nat{α:Type}{f:α->T}{l:List α}{i:Nat}{x:α}(h:l[i]?=some x):atI (l.map f) (i:Int)=some (f x):=by
 have hi:i < l.length:=(List.getElem?_eq_some_iff.mp h).1
 unfold atI ixN
 rw[List.length_map,if_pos (by omega),if_pos (by omega)]
 simp only[Option.bind,Int.toNat_natCast]
 rw[List.getElem?_map,h]
 rfl
theorem at_last{α:Type}{f:α->T}(a:α)(r:List α):atI ((a::r).map f) (((0:Nat):Int) - 1)=some (f (r.getLastD a)):=by
 unfold atI ixN
 rw[List.length_map,if_neg (by omega),if_pos (by simp;omega)]
 simp only[Option.bind]
 rw[List.getElem?_map,show ((((0:Nat):Int) - 1) + ((a::r).length:Int)).toNat=r.length by simp only[List.length_cons];omega]
 cases r with
 | nil=>rfl
 | cons b r=>simp[List.getLastD,List.getLast?_eq_getElem?,List.getLast_eq_getElem]
theorem at_prev{α:Type}{f:α->T}{l:List α}{i:Nat}{x:α}(h:l[i]?=some x):atI (l.map f) (((i + 1:Nat):Int) - 1)=some (f x):=by
 rw[show (((i + 1:Nat):Int) - 1)=(i:Int) by omega]
 exact at_nat h
theorem drop_cons{α:Type}{l r:List α}{i:Nat}{b:α}(e:l.drop i=b::r):l[i]?=some b/\l.drop (i + 1)=r/\b∈l:=by
 have h1:l[i]?=some b:=by
  have:=congrArg (·[0]?) e
  simpa using this
 refine⟨h1,?_,List.mem_of_getElem? h1⟩
 rw[← List.drop_drop,e]
 rfl
structure HpOk(h:Tr):Prop where
 w:0 < h.2.2
 l:LimT 80 h
theorem turn_id(x y z:Tr):(y.1 * x.2.2 - x.1 * y.2.2) * (z.2.1 * x.2.2 - x.2.1 * z.2.2) - (y.2.1 * x.2.2 - x.2.1 * y.2.2) * (z.1 * x.2.2 - x.1 * z.2.2)=x.2.2 * det x y z:=by
 simp only[det]
 grind
def Z00:SpT:=fun ts Q=>∃x y z:Tr,ts=[hpl x,hpl y,hpl z]/\HpOk x/\HpOk y/\HpOk z/\Q (fr (det x y z) (x.2.2 * y.2.2 * z.2.2))
theorem Z2x:∀ts Q,Z00 ts Q->ts.length=3:=by rintro ts Q ⟨_,_,_,e,_⟩;subst e;rfl
def Z0Z:WE :=
 (wCall Z01 (aCons (w2 rIxTT (wVar 1) (wVar 0)) (aCons (w2 rIxTT (wVar 2) (wVar 0)) aNil)))
def Z10:WE :=
 (wCall Z01 (aCons (w2 rIxTT (wVar 1) (wVar 0)) (aCons (w2 rIxTT (wVar 2) (wVar 0)) aNil)))
def Z1L:WS :=
 (sSeq (sSet 3 (wComp (iRange1 (aCons (wC (.int 2)) aNil)) (gN 0) tTrue Z0Z 1 [1,0]))
  (sSeq (sSet 4 (wComp (iRange1 (aCons (wC (.int 2)) aNil)) (gN 0) tTrue Z10 1 [2,0]))
  (sRet (wCall Z01 (aCons (wCall Z09 (aCons (w2 rIxTT (wVar 3) (wC (.int 0))) (aCons (w2 rIxTT (wVar 4) (wC (.int 1))) aNil))) (aCons (wCall Z09 (aCons (w2 rIxTT (wVar 3) (wC (.int 1))) (aCons (w2 rIxTT (wVar 4) (wC (.int 0))) aNil))) aNil))))))
theorem Z2K:∀ts Q,Z00 ts Q->Z1L {nx:=fun _=>Q .non,rt:=Q} (startT 5 ts):=by
 rintro _ Q ⟨x,y,z,rfl,hx,hy,hz,h⟩
 have px:=hx.w
 have py:=hy.w
 have pz:=hz.w
 have nx:x.2.2≠0:=by omega
 have ny:y.2.2≠0:=by omega
 have nz:z.2.2≠0:=by omega
 have up:∀{i:Int},Lim 80 i->Lim 900 i:=fun h=>h.mono (by decide)
 have ld:∀{a b c d:Int},Lim 80 a->Lim 80 b->Lim 80 c->Lim 80 d->Lim 161 (a * d - c * b):=fun ha hb hc hd=>((ha.mul hd).sub (hc.mul hb)).mono (by simp)
 have lb:∀{a b:Int},Lim 80 a->Lim 80 b->Lim 160 (a * b):=fun ha hb=>ha.mul hb
 have tw:∀{a b:Int}{u v:Tr},HpOk u->HpOk v->Lim 80 a->Lim 80 b->Two 900 a u.2.2 b v.2.2:=fun hu hv la lb=>⟨by have:=hu.w;omega,by have:=hv.w;omega,up la,up hu.l.2.2,up lb,up hv.l.2.2⟩
 unfold Z1L
 obtain⟨W0,hW0⟩:∃W,W=Z0Z:=⟨_,rfl⟩
 obtain⟨W1,hW1⟩:∃W,W=Z10:=⟨_,rfl⟩
 rw[← hW0,← hW1]
 walk_at "go"
 refine Eq.mpr (congrFun (congrFun hW0 _) _) ?_
 unfold Z0Z
 walk_at "go"
 refine⟨y.1,y.2.2,x.1,x.2.2,rfl,tw hy hx hy.l.1 hx.l.1,?_⟩
 walk_at "go"
 refine Eq.mpr (congrFun (congrFun hW0 _) _) ?_
 unfold Z0Z
 walk_at "go"
 refine⟨y.2.1,y.2.2,x.2.1,x.2.2,rfl,tw hy hx hy.l.2.1 hx.l.2.1,?_⟩
 walk_at "go"
 refine Eq.mpr (congrFun (congrFun hW1 _) _) ?_
 unfold Z10
 walk_at "go"
 refine⟨z.1,z.2.2,x.1,x.2.2,rfl,tw hz hx hz.l.1 hx.l.1,?_⟩
 walk_at "go"
 refine Eq.mpr (congrFun (congrFun hW1 _) _) ?_
 unfold Z10
 walk_at "go"
 refine⟨z.2.1,z.2.2,x.2.1,x.2.2,rfl,tw hz hx hz.l.2.1 hx.l.2.1,?_⟩
 have l0:=ld hy.l.1 hy.l.2.2 hx.l.1 hx.l.2.2
 have l1:=ld hy.l.2.1 hy.l.2.2 hx.l.2.1 hx.l.2.2
 have l2:=ld hz.l.1 hz.l.2.2 hx.l.1 hx.l.2.2
 have l3:=ld hz.l.2.1 hz.l.2.2 hx.l.2.1 hx.l.2.2
 have b0:=lb hy.l.2.2 hx.l.2.2
 have b1:=lb hz.l.2.2 hx.l.2.2
 have m0:y.2.2 * x.2.2≠0:=Int.mul_ne_zero ny nx
 have m1:z.2.2 * x.2.2≠0:=Int.mul_ne_zero nz nx
 have m2:=Int.mul_ne_zero m0 m1
 have lm:=b0.mul b1
 walk_at "go"
 refine⟨_,_,_,_,rfl,⟨m0,m1,l0.mono (by decide),b0.mono (by decide),l3.mono (by decide),b1.mono (by decide)⟩,?_⟩
 walk_at "go"
 refine⟨_,_,_,_,rfl,⟨m0,m1,l1.mono (by decide),b0.mono (by decide),l2.mono (by decide),b1.mono (by decide)⟩,?_⟩
 walk_at "go"
 refine⟨_,_,_,_,rfl,⟨m2,m2,(l0.mul l3).mono (by decide),lm.mono (by decide),(l1.mul l2).mono (by decide),lm.mono (by decide)⟩,?_⟩
 rw[fr_sub1 m2,turn_id]
 have e:fr (x.2.2 * det x y z) (y.2.2 * x.2.2 * (z.2.2 * x.2.2))=fr (det x y z) (x.2.2 * y.2.2 * z.2.2):=by
  refine fr_eq m2 (Int.mul_ne_zero (Int.mul_ne_zero nx ny) nz) ?_
  generalize det x y z=D
  grind
 rw[e]
 exact h
abbrev iQ(p:P2):T:=hpl (p.1,p.2,12)
abbrev Sm(p:P2):Prop:=(-1000 < p.1/\p.1 < 1000)/\(-1000 < p.2/\p.2 < 1000)
theorem sm_lim{p:P2}(h:Sm p):Lim 3 p.1/\Lim 3 p.2:=⟨Lim.of (by have:=h.1.1;show -1000 < p.1;omega) (by have:=h.1.2;show p.1 < 1000;omega),Lim.of (by have:=h.2.1;show -1000 < p.2;omega) (by have:=h.2.2;show p.2 < 1000;omega)⟩
theorem l12:Lim 3 (12:Int):=Lim.of (by decide) (by decide)
theorem hpOk_iQ{p:P2}(h:Sm p):HpOk (p.1,p.2,12):=⟨(by decide:(0:Int) < 12),(sm_lim h).1.mono (by decide),(sm_lim h).2.mono (by decide),l12.mono (by decide)⟩
abbrev trn(a b c:P2):Int:=(b.1 - a.1) * (c.2 - a.2) - (b.2 - a.2) * (c.1 - a.1)
theorem det_trn(a b c:P2):det (a.1,a.2,12) (b.1,b.2,12) (c.1,c.2,12)=12 * trn a b c:=by
 simp only[det,trn]
 grind
abbrev hT(h:Int):T:=fr h 144
theorem turn_cal{a b c:P2}{Q:T->Prop}(ha:Sm a)(hb:Sm b)(hc:Sm c)(q:Q (hT (trn a b c))):Z00 [iQ a,iQ b,iQ c] Q:=by
 refine⟨(a.1,a.2,12),(b.1,b.2,12),(c.1,c.2,12),rfl,hpOk_iQ ha,hpOk_iQ hb,hpOk_iQ hc,?_⟩
 rw[det_trn,fr_eq (n':=trn a b c) (m':=144) (by show (12 * 12 * 12:Int)≠0;decide) (by decide) (by show 12 * trn a b c * 144=trn a b c * (12 * 12 * 12);omega)]
 exact q
def Z0n:SpT:=fun ts Q=>∃(a b c:P2) (n m:Int),ts=[iQ a,iQ b,fr n m]/\Sm a/\Sm b/\Lim 100 n/\Lim 100 m/\m≠0/\a.1 * m + n * (b.1 - a.1)=c.1 * m/\a.2 * m + n * (b.2 - a.2)=c.2 * m/\Q (iQ c)
theorem Z1M:∀ts Q,Z0n ts Q->ts.length=3:=by rintro ts Q ⟨_,_,_,_,_,e,_⟩;subst e;rfl
def Z0G:WE :=
 (wCall Z0H (aCons (w2 rIxTT (wVar 1) (wVar 0)) (aCons (wCall Z09 (aCons (wVar 2) (aCons (wCall Z01 (aCons (w2 rIxTT (wVar 3) (wVar 0)) (aCons (w2 rIxTT (wVar 1) (wVar 0)) aNil))) aNil))) aNil)))
def Z0U:WS :=
 (sRet (wCB rTupleT (aCons (wComp (iRange1 (aCons (wC (.int 2)) aNil)) (gN 0) tTrue Z0G 1 [0,2,1]) aNil)))
theorem Z1U:∀ts Q,Z0n ts Q->Z0U {nx:=fun _=>Q .non,rt:=Q} (startT 3 ts):=by
 rintro _ Q ⟨a,b,c,n,m,rfl,ha,hb,ln,lm,hm,e1,e2,q⟩
 unfold Z0U
 obtain⟨W0,hW0⟩:∃W,W=Z0G:=⟨_,rfl⟩
 rw[← hW0]
 have c0:∀{xs ys:List T}{k x y z:Int}{Q:T->Prop},atI xs k=some (fr x 12)->atI ys k=some (fr y 12)->Lim 3 x->Lim 3 y->x * m + n * (y - x)=z * m->Q (fr z 12)->W0 [.val (.int k),.val (.tup xs),.val (fr n m),.val (.tup ys)] Q:=fun {xs ys k x y z Q} ex ey lx ly e hQ=>by
  rw[hW0]
  unfold Z0G
  walk_at "go"
  rw[ex]
  walk_at "go"
  rw[ey]
  walk_at "go"
  try rw[ex]
  try walk_at "go"
  have l900:∀{i:Int},Lim 100 i->Lim 900 i:=fun l=>l.mono (by decide)
  refine⟨y,12,x,12,rfl,⟨by decide,by decide,ly.mono (by decide),l12.mono (by decide),lx.mono (by decide),l12.mono (by decide)⟩,?_⟩
  rw[fr_sub1 (by decide)]
  walk_at "go"
  have ld:Lim 4 (y - x):=(ly.sub lx).mono (by decide)
  refine⟨n,m,y - x,12,rfl,⟨hm,by decide,l900 ln,l900 lm,ld.mono (by decide),l12.mono (by decide)⟩,?_⟩
  walk_at "go"
  have m12:m * 12≠0:=Int.mul_ne_zero hm (by decide)
  refine⟨x,12,n * (y - x),m * 12,rfl,⟨by decide,m12,lx.mono (by decide),l12.mono (by decide),(ln.mul ld).mono (by decide),(lm.mul l12).mono (by decide)⟩,?_⟩
  rw[fr_eq (n':=z) (m':=12) (Int.mul_ne_zero (by decide) m12) (by decide) (by
   have e':(x * m + n * (y - x)) * 144=z * m * 144:=by rw[e]
   grind)]
  exact hQ
 walk_at "go"
 refine c0 (x:=a.1) (y:=b.1) (z:=c.1) (atI0 _ _) (atI0 _ _) (sm_lim ha).1 (sm_lim hb).1 e1 ?_
 walk_at "go"
 refine c0 (x:=a.2) (y:=b.2) (z:=c.2) (atI1 _ _ _) (atI1 _ _ _) (sm_lim ha).2 (sm_lim hb).2 e2 ?_
 walk_at "go"
 exact q
theorem neg_sc{k y:Int}(hk:0 < k):k * y < 0 ↔ y < 0:=by
 constructor
 ·intro h
  rcases Int.lt_trichotomy y 0 with z|z|z
  ·exact z
  ·rw[z,Int.mul_zero]at h;omega
  ·have:=Int.mul_pos hk z;omega
 ·exact fun h=>Int.mul_neg_of_pos_of_neg hk h
theorem frN_sg{n m x:Int}(hm:0 < m):frN n m * x < 0 ↔ n * x < 0:=by
 have e:=(fr_rt (n:=n) (m:=m) (by omega)).eq
 have p:=frD_pos (n:=n) (m:=m) (by omega)
 generalize frN n m=a at *
 generalize frD n m=b at *
 have e2:m * (a * x)=b * (n * x):=by grind
 rw[← neg_sc hm,e2,neg_sc p]
theorem frN_nn{n m:Int}(hm:0 < m):0<=frN n m ↔ 0<=n:=by
 have:=frN_sg (n:=n) (x:=1) hm
 rw[Int.mul_one,Int.mul_one]at this
 omega
theorem frN_two{a b m:Int}(hm:0 < m):frN b m * frN a m < 0 ↔ a * b < 0:=by
 rw[frN_sg hm,Int.mul_comm,frN_sg hm]
def cutL(f:P2->Int)(cr:P2->P2->P2):P2->List P2->List P2
 | _,[]=>[]
 | a,b::r=>(if f a * f b < 0 then [cr a b] else [])++((if 0<=f b then [b] else [])++cutL f cr b r)
def CxOk(f:P2->Int)(cr:P2->P2->P2):P2->List P2->Prop
 | _,[]=>True
 | a,b::r=>(f a * f b < 0->a.1 * (f a - f b) + f a * (b.1 - a.1)=(cr a b).1 * (f a - f b)/\a.2 * (f a - f b) + f a * (b.2 - a.2)=(cr a b).2 * (f a - f b))/\CxOk f cr b r
def cutW(f:P2->Int)(cr:P2->P2->P2):List P2->List P2
 | []=>[]
 | a::r=>cutL f cr (r.getLastD a) (a::r)
def CxW(f:P2->Int)(cr:P2->P2->P2):List P2->Prop
 | []=>True
 | a::r=>CxOk f cr (r.getLastD a) (a::r)
def Z0o:SpT:=fun ts Q=>∃(ps:List P2) (f:P2->Int) (cr:P2->P2->P2),ts=[.lst (ps.map iQ),.lst ((ps.map f).map hT)]/\ps.length<=100/\(∀p∈ps,Sm p/\Lim 30 (f p))/\CxW f cr ps/\Q (.lst ((cutW f cr ps).map iQ))
theorem Z1N:∀ts Q,Z0o ts Q->ts.length=2:=by rintro ts Q ⟨_,_,_,e,_⟩;subst e;rfl
def Z0p:WS :=
 (sIf (tCmpT cGeT (w2 rIxTT (wVar 5) (wC (.int 0))) (wC (.int 0))) (sApp 2 (wVar 4)) sNext)
def Z07:WS :=
 (sSeq (sSet 5 (w2 rIxTT (wVar 1) (wVar 3)))
  (sSeq (sSet 6 (w2 rIxTT (wVar 1) (w2 rSubT (wVar 3) (wC (.int 1)))))
  (sSeq (sIf (tCmpT cLtT (w2 rMulT (w2 rIxTT (wVar 5) (wC (.int 0))) (w2 rIxTT (wVar 6) (wC (.int 0)))) (wC (.int 0))) (sSeq (sSet 7 (wCall Z0Q (aCons (wVar 6) (aCons (wCall Z01 (aCons (wVar 6) (aCons (wVar 5) aNil))) aNil))))
  (sApp 2 (wCall Z0n (aCons (w2 rIxTT (wVar 0) (w2 rSubT (wVar 3) (wC (.int 1)))) (aCons (wVar 4) (aCons (wVar 7) aNil)))))) sNext)
  Z0p)))
def Z0V:WS :=
 (sSeq (sOwn 2 aNil)
  (sSeq (sFor (iEnum (aCons (wVar 0) aNil)) (gT 2 (gsC (gN 3) (gsC (gN 4) gs0))) Z07)
  (sFrz 2 (sRet (wVar 2)))))
theorem cut_b0{D:DT}{ps acc:List P2}{hs:List T}{f:P2->Int}{cr:P2->P2->P2}{a b:P2}{i:Int}{s5 s6 s7:Slot}(ea:atI (ps.map iQ) (i - 1)=some (iQ a))(eh:atI hs i=some (hT (f b)))(eg:atI hs (i - 1)=some (hT (f a)))(ha:Sm a/\Lim 30 (f a))(hb:Sm b/\Lim 30 (f b))(la:acc.length < 900)
  (cx:f a * f b < 0->a.1 * (f a - f b) + f a * (b.1 - a.1)=(cr a b).1 * (f a - f b)/\a.2 * (f a - f b) + f a * (b.2 - a.2)=(cr a b).2 * (f a - f b))
  (h:∀s5 s6 s7,D.nx [.val (.lst (ps.map iQ)),.val (.lst hs),.own ((acc++((if f a * f b < 0 then [cr a b] else [])++(if 0<=f b then [b] else []))).map iQ),.val (.int i),.val (iQ b),s5,s6,s7]) :
  Z07 D [.val (.lst (ps.map iQ)),.val (.lst hs),.own (acc.map iQ),.val (.int i),.val (iQ b),s5,s6,s7]:=by
 have mo:MulOk (frN (f b) 144) (frN (f a) 144):=mulOk (frN_lim (by decide) hb.2) (frN_lim (by decide) ha.2)
 have k0:∀(acc':List P2)(s7:Slot),acc'.length < 950->acc++(if f a * f b < 0 then [cr a b] else [])=acc'->Z0p D [.val (.lst (ps.map iQ)),.val (.lst hs),.own (acc'.map iQ),.val (.int i),.val (iQ b),.val (hT (f b)),.val (hT (f a)),s7]:=fun acc' s7 hl e=>by
  rw[← List.append_assoc,e]at h
  have hL:(acc'.map iQ).length < 1000:=by rw[List.length_map];omega
  unfold Z0p
  walk_at "tw"
  by_cases hy:0<=f b
  ·rw[if_pos hy]at h
   have e3:decide (0<=frN (f b) 144)=true:=decide_eq_true ((frN_nn (by decide)).mpr hy)
   refine⟨fun _=>⟨hL,?_⟩,fun z=>Bool.noConfusion (e3.symm.trans z)⟩
   have:=h (.val (hT (f b))) (.val (hT (f a))) s7
   rw[List.map_append]at this
   exact this
  ·rw[if_neg hy,List.append_nil]at h
   have e3:decide (0<=frN (f b) 144)=false:=decide_eq_false (fun z=>hy ((frN_nn (by decide)).mp z))
   refine⟨fun z=>Bool.noConfusion (z.symm.trans e3),fun _=>h _ _ _⟩
 have hL:(acc.map iQ).length < 1000:=by rw[List.length_map];omega
 unfold Z07
 obtain⟨K0,hK0⟩:∃W,W=Z0p:=⟨_,rfl⟩
 rw[← hK0]at k0 ⊢
 walk_at "go"
 rw[eh]
 walk_at "go"
 rw[eg]
 walk_at "go"
 by_cases hz:f a * f b < 0
 ·have e3:decide (frN (f b) 144 * frN (f a) 144 < 0)=true:=decide_eq_true ((frN_two (by decide)).mpr hz)
  obtain⟨c1,c2⟩:=cx hz
  refine⟨fun _=>?_,fun z=>Bool.noConfusion (e3.symm.trans z)⟩
  have nz:f a - f b≠0:=fun z=>by
   have:f a=f b:=by omega
   rw[this]at hz
   have:=Int.mul_nonneg_of_nonpos_of_nonpos (a:=f b) (b:=f b)
   have:=Int.mul_nonneg (a:=f b) (b:=f b)
   omega
  have l144:Lim 3 (144:Int):=Lim.of (by decide) (by decide)
  have ld:Lim 31 (f a - f b):=(ha.2.sub hb.2).mono (by decide)
  walk_at "go"
  refine⟨f a,144,f b,144,rfl,⟨by decide,by decide,ha.2.mono (by decide),l144.mono (by decide),hb.2.mono (by decide),l144.mono (by decide)⟩,?_⟩
  rw[fr_sub1 (by decide)]
  walk_at "go"
  refine⟨f a,144,f a - f b,144,rfl,⟨by decide,by decide,ha.2.mono (by decide),l144.mono (by decide),ld.mono (by decide),l144.mono (by decide)⟩,nz,?_⟩
  rw[fr_eq (n':=f a) (m':=f a - f b) (Int.mul_ne_zero (by decide) nz) nz (by rw[Int.mul_assoc])]
  walk_at "go"
  rw[ea]
  walk_at "go"
  refine⟨a,b,cr a b,f a,f a - f b,rfl,ha.1,hb.1,ha.2.mono (by decide),ld.mono (by decide),nz,c1,c2,?_⟩
  walk_at "go"
  have:=k0 (acc++[cr a b]) (.val (fr (f a) (f a - f b))) (by simp;omega) (by rw[if_pos hz])
  rw[List.map_append]at this
  exact this
 ·have e3:decide (frN (f b) 144 * frN (f a) 144 < 0)=false:=decide_eq_false (fun z=>hz ((frN_two (by decide)).mp z))
  refine⟨fun z=>Bool.noConfusion (z.symm.trans e3),fun _=>?_⟩
  exact k0 acc _ (by omega) (by rw[if_neg hz,List.append_nil])
theorem cut_loop{D:DT}{ps:List P2}{f:P2->Int}{cr:P2->P2->P2}(hm:ps.length<=100)(lim:∀p∈ps,Sm p/\Lim 30 (f p)):∀(r:List P2)(i:Nat)(a:P2)(acc:List P2)(s3 s4 s5 s6 s7:Slot),ps.drop i=r->(r≠[]->atI (ps.map iQ) ((i:Int) - 1)=some (iQ a)/\atI ((ps.map f).map hT) ((i:Int) - 1)=some (hT (f a)))->(Sm a/\Lim 30 (f a))->CxOk f cr a r->acc.length<=2 * i →
  (∀s3 s4 s5 s6 s7,D.nx [.val (.lst (ps.map iQ)),.val (.lst ((ps.map f).map hT)),.own ((acc++cutL f cr a r).map iQ),s3,s4,s5,s6,s7]) →
  forT (gT 2 (gsC (gN 3) (gsC (gN 4) gs0))) Z07 (enumT i (r.map iQ)) D [.val (.lst (ps.map iQ)),.val (.lst ((ps.map f).map hT)),.own (acc.map iQ),s3,s4,s5,s6,s7]
 | [],i,a,acc,s3,s4,s5,s6,s7,_,_,_,_,_,h=>by
  simp only[cutL,List.append_nil]at h
  simp only[List.map,enumT,forT]
  exact h _ _ _ _ _
 | b::r,i,a,acc,s3,s4,s5,s6,s7,e,ea,la,cx,hl,h=>by
  obtain⟨e1,e2,mb⟩:=drop_cons e
  have hi:i < ps.length:=(List.getElem?_eq_some_iff.mp e1).1
  obtain⟨a1,a2⟩:=ea (by simp)
  have e3:(ps.map f)[i]?=some (f b):=by rw[List.getElem?_map,e1];rfl
  have ih:=fun (s3 s4 s5 s6 s7:Slot)=>cut_loop (D:=D) (cr:=cr) hm lim r (i + 1) b (acc++((if f a * f b < 0 then [cr a b] else [])++(if 0<=f b then [b] else []))) s3 s4 s5 s6 s7 e2 (fun _=>⟨at_prev e1,at_prev e3⟩) (lim b mb) cx.2
   (by split<;>split<;>simp<;>omega) (by simpa [cutL,List.append_assoc] using h)
  simp only[List.map_cons,enumT,forT]
  generalize forT (gT 2 (gsC (gN 3) (gsC (gN 4) gs0))) Z07 (enumT (i + 1) (r.map iQ)) D=F at ih ⊢
  simp only[gT,gsC,gs0,gN,sput,List.length_cons,List.length_nil,true_and]
  exact cut_b0 (D:={D with nx:=F,ct:=F,bk:=D.nx}) a1 (at_nat e3) a2 la (lim b mb) (by omega) cx.1 fun s5 s6 s7=>ih _ _ _ _ _
theorem Z1V:∀ts Q,Z0o ts Q->Z0V {nx:=fun _=>Q .non,rt:=Q} (startT 8 ts):=by
 rintro _ Q ⟨ps,f,cr,rfl,hm,lim,cx,q⟩
 unfold Z0V
 obtain⟨W0,hW0⟩:∃W,W=Z07:=⟨_,rfl⟩
 rw[← hW0]
 walk_at "tw"
 rw[hW0]
 cases ps with
 | nil =>
  simp only[List.map,enumT,forT]
  exact q
 | cons a r =>
  refine cut_loop hm lim (a::r) 0 (r.getLastD a) [] _ _ _ _ _ rfl (fun _=>⟨at_last a r,?_⟩) (lim _ ?_) cx (by simp) fun s3 s4 s5 s6 s7=>?_
  ·have:=at_last (f:=fun p=>hT (f p)) a r
   rw[List.map_map]
   exact this
  ·cases r with
   | nil=>exact List.mem_cons_self
   | cons b r=>exact List.mem_cons_of_mem _ (by simp[List.getLastD])
  ·rw[List.nil_append]
   walk_at "go"
   exact q
def lowP(p q:P2):Prop:=p.1 < q.1∨(p.1=q.1/\p.2 < q.2)
instance (p q:P2):Decidable (lowP p q):=by unfold lowP;infer_instance
def Z0h:SpT:=fun ts Q=>∃p q:P2,ts=[iQ p,iQ q]/\Sm p/\Sm q/\Q (.bl (decide (lowP p q)))
theorem Z1J:∀ts Q,Z0h ts Q->ts.length=2:=by rintro ts Q ⟨_,_,e,_⟩;subst e;rfl
def Z0R:WS :=
 (sSeq (sIf (tCmpT cNeT (w2 rIxTT (wVar 0) (wC (.int 0))) (w2 rIxTT (wVar 1) (wC (.int 0)))) (sRet (wCall Z0m (aCons (w2 rIxTT (wVar 0) (wC (.int 0))) (aCons (w2 rIxTT (wVar 1) (wC (.int 0))) aNil)))) sNext)
  (sRet (wCall Z0m (aCons (w2 rIxTT (wVar 0) (wC (.int 1))) (aCons (w2 rIxTT (wVar 1) (wC (.int 1))) aNil)))))
theorem und_cal{x y:Int}{Q:T->Prop}(hx:Lim 3 x)(hy:Lim 3 y)(q:Q (.bl (decide (x < y)))):Z0m [fr x 12,fr y 12] Q:=by
 refine⟨x,12,y,12,rfl,by decide,by decide,⟨by decide,by decide,hx.mono (by decide),l12.mono (by decide),hy.mono (by decide),l12.mono (by decide)⟩,?_⟩
 rw[show decide (x * 12 < y * 12)=decide (x < y) from decide_eq_decide.mpr (by omega)]
 exact q
theorem Z1O:∀ts Q,Z0h ts Q->Z0R {nx:=fun _=>Q .non,rt:=Q} (startT 2 ts):=by
 rintro _ Q ⟨p,q,rfl,hp,hq,h⟩
 have lp:=sm_lim hp
 have lq:=sm_lim hq
 obtain⟨S,hS⟩:∃S,S=Z0m:=⟨_,rfl⟩
 have cu:∀{x y:Int}{Q:T->Prop},Lim 3 x->Lim 3 y->Q (.bl (decide (x < y)))->S [fr x 12,fr y 12] Q:=fun a b c=>by rw[hS];exact und_cal a b c
 unfold Z0R
 rw[← hS]
 walk_at "tw"
 refine⟨eqOk_fr _ _ _ _,?_⟩
 rw[eqT_fr (by decide) (by decide)]
 by_cases e:p.1=q.1
 ·rw[show (!decide (p.1 * 12=q.1 * 12))=false by rw[decide_eq_true (by omega)];rfl]
  refine⟨(fun z=>by cases z),fun _=>cu lp.2 lq.2 ?_⟩
  rw[show decide (lowP p q)=decide (p.2 < q.2) from decide_eq_decide.mpr (by unfold lowP;omega)]at h
  exact h
 ·rw[show (!decide (p.1 * 12=q.1 * 12))=true by rw[decide_eq_false (by omega)];rfl]
  refine⟨fun _=>cu lp.1 lq.1 ?_,(fun z=>by cases z)⟩
  rw[show decide (lowP p q)=decide (p.1 < q.1) from decide_eq_decide.mpr (by unfold lowP;omega)]at h
  exact h
def Z0b:SpO:=fun ts Q=>(ts=[.lst []]/\Q [])∨∃a b c d:P2,ts=[.lst ([a,b,c,d].map iQ)]/\(Sm a/\Sm b/\Sm c/\Sm d) ∧
 ((¬ lowP b a/\¬ lowP c a/\¬ lowP d a/\Q ([a,b,c,d].map iQ))∨(lowP b a/\¬ lowP c b/\¬ lowP d b/\Q ([b,c,d,a].map iQ)))
theorem Z1W:∀ts Q,Z0b ts Q->ts.length=1:=fun ts Q h=>by rcases h with ⟨rfl,_⟩|⟨_,_,_,_,rfl,_⟩<;>rfl
def Z0x:WS :=
 (sIf (tVal (wCall Z0h (aCons (wVar 3) (aCons (w2 rIxTT (wVar 0) (wVar 1)) aNil)))) (sSet 1 (wVar 2)) sNext)
def Z13:WS :=
 (sSeq (sNoR (sSet 1 (wC (.int 0))))
  (sSeq (sNoR (sFor (iEnum (aCons (wVar 0) aNil)) (gT 2 (gsC (gN 2) (gsC (gN 3) gs0))) Z0x))
  (sRetF (w2 rCatLT (wSl (wVar 0) (wo (wVar 1)) wo0) (wSl (wVar 0) wo0 (wo (wVar 1)))))))
theorem begun_b0{D:DT}{us:List T}{p q:P2}{k n:Int}(e:atI us k=some (iQ q))(hp:Sm p)(hq:Sm q)(h1:lowP p q->D.nx [.val (.lst us),.val (.int n),.val (.int n),.val (iQ p)])(h2:¬ lowP p q->D.nx [.val (.lst us),.val (.int k),.val (.int n),.val (iQ p)]) :
  Z0x D [.val (.lst us),.val (.int k),.val (.int n),.val (iQ p)]:=by
 unfold Z0x
 walk_at "go"
 rw[e]
 walk_at "go"
 refine⟨p,q,rfl,hp,hq,?_⟩
 by_cases z:lowP p q
 ·rw[decide_eq_true z]
  refine⟨fun _=>h1 z,fun y=>by cases y⟩
 ·rw[decide_eq_false z]
  refine⟨(fun y=>by cases y),fun _=>h2 z⟩
theorem Z21:∀ts Q,Z0b ts Q->Z13 {nx:=fun _=>False,rt:=lstQ Q} (startT 4 ts):=by
 rintro _ Q h
 unfold Z13
 obtain⟨W0,hW0⟩:∃W,W=Z0x:=⟨_,rfl⟩
 rw[← hW0]
 rcases h with ⟨rfl,q⟩|⟨a,b,c,d,rfl,⟨ha,hb,hc,hd⟩,h⟩
 ·walk_at "go"
  exact q
 ·have la:¬ lowP a a:=by unfold lowP;omega
  have lb:¬ lowP b b:=by unfold lowP;omega
  simp only[List.map]
  rcases h with ⟨h1,h2,h3,q⟩|⟨h1,h2,h3,q⟩
  ·walk_at "go"
   refine Eq.mpr (congrFun (congrFun hW0 _) _) ?_
   refine begun_b0 (k:=0) (n:=0) (q:=a) (p:=a) rfl ha ha (fun z=>absurd z la) fun _=>?_
   walk_at "go"
   refine Eq.mpr (congrFun (congrFun hW0 _) _) ?_
   refine begun_b0 (k:=0) (n:=1) (q:=a) (p:=b) rfl hb ha (fun z=>absurd z h1) fun _=>?_
   walk_at "go"
   refine Eq.mpr (congrFun (congrFun hW0 _) _) ?_
   refine begun_b0 (k:=0) (n:=2) (q:=a) (p:=c) rfl hc ha (fun z=>absurd z h2) fun _=>?_
   walk_at "go"
   refine Eq.mpr (congrFun (congrFun hW0 _) _) ?_
   refine begun_b0 (k:=0) (n:=3) (q:=a) (p:=d) rfl hd ha (fun z=>absurd z h3) fun _=>?_
   walk_at "go"
   exact q
  ·walk_at "go"
   refine Eq.mpr (congrFun (congrFun hW0 _) _) ?_
   refine begun_b0 (k:=0) (n:=0) (q:=a) (p:=a) rfl ha ha (fun z=>absurd z la) fun _=>?_
   walk_at "go"
   refine Eq.mpr (congrFun (congrFun hW0 _) _) ?_
   refine begun_b0 (k:=0) (n:=1) (q:=a) (p:=b) rfl hb ha (fun _=>?_) (fun z=>absurd h1 z)
   walk_at "go"
   refine Eq.mpr (congrFun (congrFun hW0 _) _) ?_
   refine begun_b0 (k:=1) (n:=2) (q:=b) (p:=c) rfl hc hb (fun z=>absurd z h2) fun _=>?_
   walk_at "go"
   refine Eq.mpr (congrFun (congrFun hW0 _) _) ?_
   refine begun_b0 (k:=1) (n:=3) (q:=b) (p:=d) rfl hd hb (fun z=>absurd z h3) fun _=>?_
   walk_at "go"
   exact q
theorem eqOk_iQ(p q:P2):EqOk (iQ p) (iQ q):=by
 refine⟨by simp[plain,fr,pd,pds,PyData.canLay0,PyData.canLayAll0],by simp[plain,fr,pd,pds,PyData.canLay0,PyData.canLayAll0],by simp[dep,fr,pd,pds,PyData.depth,PyData.depthAll]⟩
theorem eqT_iQ(p q:P2):eqT (iQ p) (iQ q)=decide (p=q):=by
 show (eqT (fr p.1 12) (fr q.1 12)&&(eqT (fr p.2 12) (fr q.2 12)&&true))=_
 rw[eqT_fr (by decide) (by decide),eqT_fr (by decide) (by decide)]
 obtain⟨a,b⟩:=p
 obtain⟨c,d⟩:=q
 simp only[Bool.and_true,Prod.mk.injEq,← Bool.decide_and]
 exact decide_eq_decide.mpr (by omega)
abbrev box0(x0 x1 y0 y1:Int):List P2:=[(x0,y0),(x1,y0),(x1,y1),(x0,y1)]
abbrev box3(x0 x1 y0 y1:Int):List P2:=[(x0,y1),(x0,y0),(x1,y0),(x1,y1)]
structure BxOk(x0 x1 y0 y1:Int):Prop where
 x:x0 < x1
 y:y0 < y1
 a:-1000 < x0
 b:x1 < 1000
 c:-1000 < y0
 d:y1 < 1000
def Z0i:SpO:=fun ts Q=>(∃ps:List P2,ts=[.lst (ps.map iQ)]/\ps.length<=300/\(∀p∈ps,Sm p)/\(∀a∈ps,∀b∈ps,∀c∈ps,trn a b c=0)/\Q []) ∨
 ∃x0 x1 y0 y1:Int,(ts=[.lst ((box0 x0 x1 y0 y1).map iQ)]∨ts=[.lst ((box3 x0 x1 y0 y1).map iQ)])/\BxOk x0 x1 y0 y1/\Q ((box0 x0 x1 y0 y1).map iQ)
theorem Z29:∀ts Q,Z0i ts Q->ts.length=1:=fun ts Q h=>by rcases h with ⟨_,rfl,_⟩|⟨_,_,_,_,rfl|rfl,_⟩<;>rfl
def Z0c:WS :=
 (sSeq (sSet 5 (w2 rIxTT (wVar 1) (w2 rModT (w2 rAddT (wVar 3) (wC (.int 1))) (wCB rLenT (aCons (wVar 1) aNil)))))
  (sIf (tCmpT cGtT (w2 rIxTT (wCall Z00 (aCons (w2 rIxTT (wVar 1) (w2 rSubT (wVar 3) (wC (.int 1)))) (aCons (wVar 4) (aCons (wVar 5) aNil)))) (wC (.int 0))) (wC (.int 0))) (sApp 2 (wVar 4)) sNext))
def Z0I:WS :=
 (sSeq (sNoR (sSet 1 (wComp (iEnum (aCons (wVar 0) aNil)) (gT 2 (gsC (gN 0) (gsC (gN 1) gs0))) (tCmpT cNeT (wVar 1) (w2 rIxTT (wVar 2) (w2 rSubT (wVar 0) (wC (.int 1))))) (wVar 1) 2 [0])))
  (sSeq (sNoR (sOwn 2 aNil))
  (sSeq (sNoR (sFor (iEnum (aCons (wVar 1) aNil)) (gT 2 (gsC (gN 3) (gsC (gN 4) gs0))) Z0c))
  (sFrz 2 (sRetF (wCall (frO Z0b) (aCons (wVar 2) aNil)))))))
theorem at_back{α:Type}{f:α->T}{l:List α}{i:Nat}(h:i < l.length):∃x,x∈l/\atI (l.map f) ((i:Int) - 1)=some (f x):=by
 cases i with
 | zero =>
  cases l with
  | nil=>simp at h
  | cons a r =>
   refine⟨r.getLastD a,?_,at_last a r⟩
   cases r with
   | nil=>simp[List.getLastD]
   | cons b r =>
    have:(b::r).getLastD a=(b::r).getLast (by simp):=by simp[List.getLastD]
    rw[this]
    exact List.mem_cons_of_mem _ (List.getLast_mem _)
 | succ i =>
  have hi:i < l.length:=by omega
  exact⟨l[i],List.getElem_mem hi,at_prev (List.getElem?_eq_getElem hi)⟩
theorem unlike_comp{ps:List P2}:∀(r:List P2)(i:Nat)(acc:List P2)(x0 x1:Slot)(Q:List T->Prop),ps.drop i=r->(∀p∈acc,p∈ps)->acc.length<=i->(∀us:List P2,(∀p∈us,p∈ps)->us.length<=ps.length->Q (us.map iQ))->i<=ps.length →
  compT (gT 2 (gsC (gN 0) (gsC (gN 1) gs0))) (tCmpT cNeT (wVar 1) (w2 rIxTT (wVar 2) (w2 rSubT (wVar 0) (wC (.int 1))))) (wVar 1) (enumT i (r.map iQ)) (acc.map iQ) [x0,x1,.val (.lst (ps.map iQ))] Q
 | [],i,acc,x0,x1,Q,_,ha,hl,h,hi=>by
  simp only[List.map,enumT,compT]
  exact h acc ha (by omega)
 | b::r,i,acc,x0,x1,Q,e,ha,hl,h,hi=>by
  obtain⟨e1,e2,mb⟩:=drop_cons e
  have hi:i < ps.length:=(List.getElem?_eq_some_iff.mp e1).1
  obtain⟨a,ma,ea⟩:=at_back (f:=iQ) hi
  have i1:=fun x0 x1=>unlike_comp r (i + 1) (acc++[b]) x0 x1 Q e2 (fun p hp=>by
   rcases List.mem_append.mp hp with w|w
   ·exact ha p w
   ·rw[List.mem_singleton.mp w];exact mb) (by simp;omega) h (by omega)
  have i2:=fun x0 x1=>unlike_comp r (i + 1) acc x0 x1 Q e2 ha (by omega) h (by omega)
  simp only[List.map_append,List.map_cons,List.map_nil]at i1
  have oo:=eqOk_iQ b a
  simp only[List.map_cons,enumT,compT]
  generalize compT (gT 2 (gsC (gN 0) (gsC (gN 1) gs0))) (tCmpT cNeT (wVar 1) (w2 rIxTT (wVar 2) (w2 rSubT (wVar 0) (wC (.int 1))))) (wVar 1) (enumT (i + 1) (r.map iQ))=F at i1 i2 ⊢
  walk_at "tw"
  rw[ea]
  exact⟨oo,fun _=>i1 _ _,fun _=>i2 _ _⟩
theorem round_b0{D:DT}{us:List T}{x y z:T}{v k:Int}{own:List T}{s0 s5:Slot}(len:(us.length:Int)≠0)(e1:atI us ((k + 1).fmod us.length)=some z)(e2:atI us (k - 1)=some x)(t:∀{Q:T->Prop},Q (hT v)->Z00 [x,y,z] Q)(hl:own.length < 900)
  (h1:0 < v->∀s5,D.nx [s0,.val (.lst us),.own (own++[y]),.val (.int k),.val y,s5]) (h2:¬ 0 < v->∀s5,D.nx [s0,.val (.lst us),.own own,.val (.int k),.val y,s5]):Z0c D [s0,.val (.lst us),.own own,.val (.int k),.val y,s5]:=by
 unfold Z0c
 walk_at "go"
 rw[e1]
 walk_at "go"
 rw[e2]
 walk_at "go"
 obtain⟨x1,y1,z1,e,g1,g2,g3,q⟩:=t (Q:=fun v'=>v'=hT v) rfl
 refine⟨x1,y1,z1,e,g1,g2,g3,?_⟩
 rw[q]
 have hn:0 < frN v 144 ↔ 0 < v:=by
  have a1:=frN_nn (n:=v) (m:=144) (by decide)
  have a2:=frN_nn (n:=0 - v) (m:=144) (by decide)
  have a3:frN v 144=0 ↔ v=0:=by
   constructor
   ·intro e
    by_cases z:v=0
    ·exact z
    ·exact absurd e (frN_ne (by decide) z)
   ·intro e
    have a4:=frN_sg (n:=v) (m:=144) (x:=1) (by decide)
    have a5:=frN_sg (n:=v) (m:=144) (x:=-1) (by decide)
    omega
  omega
 walk_at "tw"
 by_cases hv:0 < v
 ·have e3:decide (frN v 144 > 0)=true:=decide_eq_true (hn.mpr hv)
  exact⟨fun _=>⟨by omega,h1 hv _⟩,fun z=>Bool.noConfusion (e3.symm.trans z)⟩
 ·have e3:decide (frN v 144 > 0)=false:=decide_eq_false (fun z=>hv (hn.mp z))
  exact⟨fun z=>Bool.noConfusion (z.symm.trans e3),fun _=>h2 hv _⟩
theorem at_mod{α:Type}{f:α->T}{l:List α}(i:Nat)(h:0 < l.length):∃x,x∈l/\atI (l.map f) (((i:Int) + 1).fmod ((l.map f).length:Int))=some (f x):=by
 have b:=fmod_pos ((i:Int) + 1) (b:=((l.map f).length:Int)) (by rw[List.length_map];omega)
 rw[List.length_map]at b ⊢
 obtain⟨k,hk⟩:∃k:Nat,((i:Int) + 1).fmod (l.length:Int)=(k:Int):=⟨_,(Int.toNat_of_nonneg b.1).symm⟩
 rw[hk]at b ⊢
 have hk':k < l.length:=by omega
 exact⟨l[k],List.getElem_mem hk',at_nat (List.getElem?_eq_getElem hk')⟩
theorem round_loop{D:DT}{us:List P2}{s0:Slot}(sm:∀p∈us,Sm p)(z:∀a∈us,∀b∈us,∀c∈us,trn a b c=0)(h:∀s3 s4 s5,D.nx [s0,.val (.lst (us.map iQ)),.own [],s3,s4,s5]):∀(r:List P2)(i:Nat)(s3 s4 s5:Slot),us.drop i=r →
  forT (gT 2 (gsC (gN 3) (gsC (gN 4) gs0))) Z0c (enumT i (r.map iQ)) D [s0,.val (.lst (us.map iQ)),.own [],s3,s4,s5]
 | [],i,s3,s4,s5,_=>by
  simp only[List.map,enumT,forT]
  exact h _ _ _
 | b::r,i,s3,s4,s5,e=>by
  obtain⟨e1,e2,mb⟩:=drop_cons e
  have hi:i < us.length:=(List.getElem?_eq_some_iff.mp e1).1
  obtain⟨a,ma,ea⟩:=at_back (f:=iQ) hi
  obtain⟨c,mc,ec⟩:=at_mod (f:=iQ) (l:=us) i (by omega)
  have ih:=fun s3 s4 s5=>round_loop (D:=D) sm z h r (i + 1) s3 s4 s5 e2
  simp only[List.map_cons,enumT,forT]
  generalize forT (gT 2 (gsC (gN 3) (gsC (gN 4) gs0))) Z0c (enumT (i + 1) (r.map iQ)) D=F at ih ⊢
  simp only[gT,gsC,gs0,gN,sput,List.length_cons,List.length_nil,true_and]
  exact round_b0 (D:={D with nx:=F,ct:=F,bk:=D.nx}) (v:=trn a b c) (by rw[List.length_map];omega) ec ea (fun q=>turn_cal (sm a ma) (sm b mb) (sm c mc) q) (by simp) (fun y=>absurd y (by rw[z a ma b mb c mc];decide)) fun _ s5=>ih _ _ _
theorem ne_iQ{p q:P2}(h:p≠q):eqT (iQ p) (iQ q)=false:=by rw[eqT_iQ];exact decide_eq_false h
theorem part4{Q:List T->Prop}{a b c d:P2}(ha:Sm a)(hb:Sm b)(hc:Sm c)(hd:Sm d)(n1:a≠d)(n2:b≠a)(n3:c≠b)(n4:d≠c)(t1:0 < trn d a b)(t2:0 < trn a b c)(t3:0 < trn b c d)(t4:0 < trn c d a)
  (q:Z0b [.lst ([a,b,c,d].map iQ)] Q):Z0I {nx:=fun _=>False,rt:=lstQ Q} (startT 6 [.lst ([a,b,c,d].map iQ)]):=by
 have q1:=ne_iQ n1
 have q2:=ne_iQ n2
 have q3:=ne_iQ n3
 have q4:=ne_iQ n4
 have o1:=eqOk_iQ a d
 have o2:=eqOk_iQ b a
 have o3:=eqOk_iQ c b
 have o4:=eqOk_iQ d c
 have c1:∀{Q:T->Prop},Q (hT (trn d a b))->Z00 [iQ d,iQ a,iQ b] Q:=fun q=>turn_cal hd ha hb q
 have c2:∀{Q:T->Prop},Q (hT (trn a b c))->Z00 [iQ a,iQ b,iQ c] Q:=fun q=>turn_cal ha hb hc q
 have c3:∀{Q:T->Prop},Q (hT (trn b c d))->Z00 [iQ b,iQ c,iQ d] Q:=fun q=>turn_cal hb hc hd q
 have c4:∀{Q:T->Prop},Q (hT (trn c d a))->Z00 [iQ c,iQ d,iQ a] Q:=fun q=>turn_cal hc hd ha q
 have hn:∀x:P2,∃xs,iQ x=.tup xs:=fun x=>⟨_,rfl⟩
 obtain⟨as,ea⟩:=hn a
 obtain⟨bs,eb⟩:=hn b
 obtain⟨cs,ec⟩:=hn c
 obtain⟨ds,ed⟩:=hn d
 simp only[List.map]at q ⊢
 rw[ea,eb,ec,ed]at q ⊢
 rw[ea,ed]at q1 o1
 rw[eb,ea]at q2 o2
 rw[ec,eb]at q3 o3
 rw[ed,ec]at q4 o4
 simp only[ea,eb,ec,ed]at c1 c2 c3 c4
 obtain⟨S,hS⟩:∃S,S=frO Z0b:=⟨_,rfl⟩
 have q':S [.lst [.tup as,.tup bs,.tup cs,.tup ds]] (lstQ Q):=by rw[hS];exact q
 unfold Z0I
 obtain⟨W0,hW0⟩:∃W,W=Z0c:=⟨_,rfl⟩
 rw[← hW0,← hS]
 walk_at "go"
 rw[q1]
 refine⟨fun _=>?_,fun z=>by cases z⟩
 walk_at "go"
 rw[q2]
 refine⟨fun _=>?_,fun z=>by cases z⟩
 walk_at "go"
 rw[q3]
 refine⟨fun _=>?_,fun z=>by cases z⟩
 walk_at "go"
 rw[q4]
 refine⟨fun _=>?_,fun z=>by cases z⟩
 walk_at "go"
 refine Eq.mpr (congrFun (congrFun hW0 _) _) ?_
 refine round_b0 (us:=[.tup as,.tup bs,.tup cs,.tup ds]) (k:=0) (own:=[]) (v:=trn d a b) (x:=.tup ds) (y:=.tup as) (z:=.tup bs) (by simp) (show atI [T.tup as,T.tup bs,T.tup cs,T.tup ds] ((1:Int).fmod 4)=_ from rfl) rfl (fun q=>c1 q) (by decide) (fun _ s5=>?_) (fun z=>absurd t1 z)
 walk_at "go"
 refine Eq.mpr (congrFun (congrFun hW0 _) _) ?_
 refine round_b0 (us:=[.tup as,.tup bs,.tup cs,.tup ds]) (k:=1) (own:=[.tup as]) (v:=trn a b c) (x:=.tup as) (y:=.tup bs) (z:=.tup cs) (by simp) (show atI [T.tup as,T.tup bs,T.tup cs,T.tup ds] ((2:Int).fmod 4)=_ from rfl) rfl (fun q=>c2 q) (by simp) (fun _ s5=>?_) (fun z=>absurd t2 z)
 walk_at "go"
 refine Eq.mpr (congrFun (congrFun hW0 _) _) ?_
 refine round_b0 (us:=[.tup as,.tup bs,.tup cs,.tup ds]) (k:=2) (own:=[.tup as,.tup bs]) (v:=trn b c d) (x:=.tup bs) (y:=.tup cs) (z:=.tup ds) (by simp) (show atI [T.tup as,T.tup bs,T.tup cs,T.tup ds] ((3:Int).fmod 4)=_ from rfl) rfl (fun q=>c3 q) (by simp) (fun _ s5=>?_) (fun z=>absurd t3 z)
 walk_at "go"
 refine Eq.mpr (congrFun (congrFun hW0 _) _) ?_
 refine round_b0 (us:=[.tup as,.tup bs,.tup cs,.tup ds]) (k:=3) (own:=[.tup as,.tup bs,.tup cs]) (v:=trn c d a) (x:=.tup cs) (y:=.tup ds) (z:=.tup as) (by simp) (show atI [T.tup as,T.tup bs,T.tup cs,T.tup ds] ((4:Int).fmod 4)=_ from rfl) rfl (fun q=>c4 q) (by simp) (fun _ s5=>?_) (fun z=>absurd t4 z)
 walk_at "go"
 exact q'
theorem Z2g:∀ts Q,Z0i ts Q->Z0I {nx:=fun _=>False,rt:=lstQ Q} (startT 6 ts):=by
 rintro _ Q (⟨ps,rfl,hl,sm,z,q⟩|⟨x0,x1,y0,y1,ht,B,q⟩)
 ·unfold Z0I
  obtain⟨W0,hW0⟩:∃W,W=Z0c:=⟨_,rfl⟩
  rw[← hW0]
  walk_at "tw"
  refine⟨by rw[enumT_length,List.length_map];omega,?_⟩
  refine unlike_comp ps 0 [] _ _ _ rfl (fun p hp=>absurd hp (by simp)) (by simp) (fun us hu lu=>?_) (by omega)
  rw[hW0]
  refine round_loop (fun p hp=>sm p (hu p hp)) (fun a ma b mb c mc=>z a (hu a ma) b (hu b mb) c (hu c mc)) (fun s3 s4 s5=>?_) us 0 _ _ _ rfl
  exact .inl ⟨rfl,q⟩
 ·obtain⟨hx,hy,b1,b2,b3,b4⟩:=B
  have pos:0 < (x1 - x0) * (y1 - y0):=Int.mul_pos (by omega) (by omega)
  have s00:Sm (x0,y0):=⟨⟨by show -1000 < x0;omega,by show x0 < 1000;omega⟩,by show -1000 < y0;omega,by show y0 < 1000;omega⟩
  have s10:Sm (x1,y0):=⟨⟨by show -1000 < x1;omega,by show x1 < 1000;omega⟩,by show -1000 < y0;omega,by show y0 < 1000;omega⟩
  have s11:Sm (x1,y1):=⟨⟨by show -1000 < x1;omega,by show x1 < 1000;omega⟩,by show -1000 < y1;omega,by show y1 < 1000;omega⟩
  have s01:Sm (x0,y1):=⟨⟨by show -1000 < x0;omega,by show x0 < 1000;omega⟩,by show -1000 < y1;omega,by show y1 < 1000;omega⟩
  have ne:∀{a b c d:Int},a≠c∨b≠d->((a,b):P2)≠(c,d):=fun h e=>by
   simp only[Prod.mk.injEq]at e
   omega
  have e1:trn (x0,y1) (x0,y0) (x1,y0)=(x1 - x0) * (y1 - y0):=by simp only[trn];grind
  have e2:trn (x0,y0) (x1,y0) (x1,y1)=(x1 - x0) * (y1 - y0):=by simp only[trn];grind
  have e3:trn (x1,y0) (x1,y1) (x0,y1)=(x1 - x0) * (y1 - y0):=by simp only[trn];grind
  have e4:trn (x1,y1) (x0,y1) (x0,y0)=(x1 - x0) * (y1 - y0):=by simp only[trn];grind
  rcases ht with rfl|rfl
  ·refine part4 s00 s10 s11 s01 (ne (by omega)) (ne (by omega)) (ne (by omega)) (ne (by omega)) (by rw[e1];exact pos) (by rw[e2];exact pos) (by rw[e3];exact pos) (by rw[e4];exact pos) ?_
   exact .inr ⟨_,_,_,_,rfl,⟨s00,s10,s11,s01⟩,.inl ⟨by unfold lowP;simp only;omega,by unfold lowP;simp only;omega,by unfold lowP;simp only;omega,q⟩⟩
  ·refine part4 s01 s00 s10 s11 (ne (by omega)) (ne (by omega)) (ne (by omega)) (ne (by omega)) (by rw[e4];exact pos) (by rw[e1];exact pos) (by rw[e2];exact pos) (by rw[e3];exact pos) ?_
   exact .inr ⟨_,_,_,_,rfl,⟨s01,s00,s10,s11⟩,.inr ⟨.inr ⟨rfl,hy⟩,by unfold lowP;simp only;omega,by unfold lowP;simp only;omega,q⟩⟩
theorem nn2{a b:Int}(h:(0<=a/\0<=b)∨(a<=0/\b<=0)):¬ a * b < 0:=by
 rcases h with ⟨x,y⟩|⟨x,y⟩
 ·have:=Int.mul_nonneg x y;omega
 ·have:=Int.mul_nonneg_of_nonpos_of_nonpos x y;omega
theorem np2{a b:Int}(h:(a < 0/\0 < b)∨(0 < a/\b < 0)):a * b < 0:=by
 rcases h with ⟨x,y⟩|⟨x,y⟩
 ·exact Int.mul_neg_of_neg_of_pos x y
 ·exact Int.mul_neg_of_pos_of_neg x y
theorem cut4(f:P2->Int)(cr:P2->P2->P2)(a b c d:P2):cutW f cr [a,b,c,d]=(if f d * f a < 0 then [cr d a] else [])++((if 0<=f a then [a] else [])++((if f a * f b < 0 then [cr a b] else [])++((if 0<=f b then [b] else [])++((if f b * f c < 0 then [cr b c] else [])++((if 0<=f c then [c] else [])++((if f c * f d < 0 then [cr c d] else [])++((if 0<=f d then [d] else [])++[]))))))):=rfl
abbrev gx0(w X:Int)(p:P2):Int:=w * (p.1 - X)
abbrev gx1(w X:Int)(p:P2):Int:=w * (X - p.1)
abbrev gy0(w Y:Int)(p:P2):Int:=w * (p.2 - Y)
abbrev gy1(w Y:Int)(p:P2):Int:=w * (Y - p.2)
abbrev crx(X:Int)(a _b:P2):P2:=(X,a.2)
abbrev cry(Y:Int)(a _b:P2):P2:=(a.1,Y)
theorem sc2{w a b:Int}(hw:0 < w):w * a * (w * b) < 0 ↔ a * b < 0:=by
 rw[show w * a * (w * b)=w * (w * (a * b)) by grind,neg_sc hw,neg_sc hw]
theorem sc0{w a:Int}(hw:0 < w):0<=w * a ↔ 0<=a:=by
 have:=neg_sc (y:=a) hw
 omega
section
variable {w x0 x1 y0 y1 X:Int}
theorem cx0_a(hw:0 < w)(hx:x0 < x1)(h:X<=x0):cutW (gx0 w X) (crx X) (box0 x0 x1 y0 y1)=box0 x0 x1 y0 y1:=by
 rw[cut4]
 simp only[gx0,sc2 hw,sc0 hw]
 simp only[if_neg (nn2 (a:=x0 - X) (b:=x0 - X) (by omega)),if_neg (nn2 (a:=x0 - X) (b:=x1 - X) (by omega)),if_neg (nn2 (a:=x1 - X) (b:=x1 - X) (by omega)),if_neg (nn2 (a:=x1 - X) (b:=x0 - X) (by omega)),if_pos (show 0<=x0 - X by omega),if_pos (show 0<=x1 - X by omega)]
 rfl
theorem cx0_b(hw:0 < w)(hx:x0 < X)(h:X < x1):cutW (gx0 w X) (crx X) (box0 x0 x1 y0 y1)=box0 X x1 y0 y1:=by
 rw[cut4]
 simp only[gx0,sc2 hw,sc0 hw]
 simp only[if_neg (nn2 (a:=x0 - X) (b:=x0 - X) (by omega)),if_pos (np2 (a:=x0 - X) (b:=x1 - X) (by omega)),if_neg (nn2 (a:=x1 - X) (b:=x1 - X) (by omega)),if_pos (np2 (a:=x1 - X) (b:=x0 - X) (by omega)),if_neg (show ¬ 0<=x0 - X by omega),if_pos (show 0<=x1 - X by omega)]
 rfl
theorem cx1_a(hw:0 < w)(hx:x0 < x1)(h:x1<=X):cutW (gx1 w X) (crx X) (box0 x0 x1 y0 y1)=box0 x0 x1 y0 y1:=by
 rw[cut4]
 simp only[gx1,sc2 hw,sc0 hw]
 simp only[if_neg (nn2 (a:=X - x0) (b:=X - x0) (by omega)),if_neg (nn2 (a:=X - x0) (b:=X - x1) (by omega)),if_neg (nn2 (a:=X - x1) (b:=X - x1) (by omega)),if_neg (nn2 (a:=X - x1) (b:=X - x0) (by omega)),if_pos (show 0<=X - x0 by omega),if_pos (show 0<=X - x1 by omega)]
 rfl
theorem cx1_b(hw:0 < w)(hx:x0 < X)(h:X < x1):cutW (gx1 w X) (crx X) (box0 x0 x1 y0 y1)=box0 x0 X y0 y1:=by
 rw[cut4]
 simp only[gx1,sc2 hw,sc0 hw]
 simp only[if_neg (nn2 (a:=X - x0) (b:=X - x0) (by omega)),if_pos (np2 (a:=X - x0) (b:=X - x1) (by omega)),if_neg (nn2 (a:=X - x1) (b:=X - x1) (by omega)),if_pos (np2 (a:=X - x1) (b:=X - x0) (by omega)),if_pos (show 0<=X - x0 by omega),if_neg (show ¬ 0<=X - x1 by omega)]
 rfl
theorem cy0_a(hw:0 < w)(hy:y0 < y1)(h:X<=y0):cutW (gy0 w X) (cry X) (box0 x0 x1 y0 y1)=box0 x0 x1 y0 y1:=by
 rw[cut4]
 simp only[gy0,sc2 hw,sc0 hw]
 simp only[if_neg (nn2 (a:=y0 - X) (b:=y0 - X) (by omega)),if_neg (nn2 (a:=y0 - X) (b:=y1 - X) (by omega)),if_neg (nn2 (a:=y1 - X) (b:=y1 - X) (by omega)),if_neg (nn2 (a:=y1 - X) (b:=y0 - X) (by omega)),if_pos (show 0<=y0 - X by omega),if_pos (show 0<=y1 - X by omega)]
 rfl
theorem cy0_b(hw:0 < w)(hy:y0 < X)(h:X < y1):cutW (gy0 w X) (cry X) (box0 x0 x1 y0 y1)=box0 x0 x1 X y1:=by
 rw[cut4]
 simp only[gy0,sc2 hw,sc0 hw]
 simp only[if_pos (np2 (a:=y1 - X) (b:=y0 - X) (by omega)),if_neg (nn2 (a:=y0 - X) (b:=y0 - X) (by omega)),if_pos (np2 (a:=y0 - X) (b:=y1 - X) (by omega)),if_neg (nn2 (a:=y1 - X) (b:=y1 - X) (by omega)),if_neg (show ¬ 0<=y0 - X by omega),if_pos (show 0<=y1 - X by omega)]
 rfl
theorem cy1_a(hw:0 < w)(hy:y0 < y1)(h:y1<=X):cutW (gy1 w X) (cry X) (box0 x0 x1 y0 y1)=box0 x0 x1 y0 y1:=by
 rw[cut4]
 simp only[gy1,sc2 hw,sc0 hw]
 simp only[if_neg (nn2 (a:=X - y0) (b:=X - y0) (by omega)),if_neg (nn2 (a:=X - y0) (b:=X - y1) (by omega)),if_neg (nn2 (a:=X - y1) (b:=X - y1) (by omega)),if_neg (nn2 (a:=X - y1) (b:=X - y0) (by omega)),if_pos (show 0<=X - y0 by omega),if_pos (show 0<=X - y1 by omega)]
 rfl
theorem cy1_b(hw:0 < w)(hy:y0 < X)(h:X < y1):cutW (gy1 w X) (cry X) (box0 x0 x1 y0 y1)=box3 x0 x1 y0 X:=by
 rw[cut4]
 simp only[gy1,sc2 hw,sc0 hw]
 simp only[if_pos (np2 (a:=X - y1) (b:=X - y0) (by omega)),if_neg (nn2 (a:=X - y0) (b:=X - y0) (by omega)),if_pos (np2 (a:=X - y0) (b:=X - y1) (by omega)),if_neg (nn2 (a:=X - y1) (b:=X - y1) (by omega)),if_pos (show 0<=X - y0 by omega),if_neg (show ¬ 0<=X - y1 by omega)]
 rfl
end
theorem mem_cutL{f:P2->Int}{cr:P2->P2->P2}{p:P2}:∀{r:List P2}{a:P2},p∈cutL f cr a r->(p∈r/\0<=f p)∨∃u v,(u=a∨u∈r)/\v∈r/\f u * f v < 0/\p=cr u v
 | [],a,h=>by simp[cutL]at h
 | b::r,a,h=>by
  simp only[cutL,List.mem_append]at h
  rcases h with h|h|h
  ·split at h
   ·exact .inr ⟨a,b,.inl rfl,List.mem_cons_self,by assumption,List.mem_singleton.mp h⟩
   ·simp at h
  ·split at h
   ·rw[List.mem_singleton.mp h];exact .inl ⟨List.mem_cons_self,by assumption⟩
   ·simp at h
  ·rcases mem_cutL h with ⟨h,g⟩|⟨u,v,hu,hv,hz,e⟩
   ·exact .inl ⟨List.mem_cons_of_mem _ h,g⟩
   ·exact .inr ⟨u,v,.inr (by rcases hu with rfl|hu;exact List.mem_cons_self;exact List.mem_cons_of_mem _ hu),List.mem_cons_of_mem _ hv,hz,e⟩
theorem last_mem{a:P2}{r:List P2}:r.getLastD a∈a::r:=by
 cases r with
 | nil=>exact List.mem_cons_self
 | cons b r=>exact List.mem_cons_of_mem _ (by simp[List.getLastD])
theorem mem_cutW{f:P2->Int}{cr:P2->P2->P2}{p:P2}{ps:List P2}(h:p∈cutW f cr ps):(p∈ps/\0<=f p)∨∃u v,u∈ps/\v∈ps/\f u * f v < 0/\p=cr u v:=by
 cases ps with
 | nil=>simp[cutW]at h
 | cons a r =>
  rcases mem_cutL (show p∈cutL f cr (r.getLastD a) (a::r) from h) with h|⟨u,v,hu,hv,hz,e⟩
  ·exact .inl h
  ·exact .inr ⟨u,v,by rcases hu with rfl|hu;exact last_mem;exact hu,hv,hz,e⟩
theorem len_cutL{f:P2->Int}{cr:P2->P2->P2}:∀{r:List P2}{a:P2},(cutL f cr a r).length<=2 * r.length
 | [],a=>by simp[cutL]
 | b::r,a=>by
  have:=len_cutL (f:=f) (cr:=cr) (r:=r) (a:=b)
  simp only[cutL,List.length_append,List.length_cons]
  split<;>split<;>simp<;>omega
theorem len_cutW{f:P2->Int}{cr:P2->P2->P2}{ps:List P2}:(cutW f cr ps).length<=2 * ps.length:=by
 cases ps with
 | nil=>simp[cutW]
 | cons a r=>exact len_cutL
theorem cxOk_of{f:P2->Int}{cr:P2->P2->P2}:∀{r:List P2}{a:P2}{L:List P2},a∈L->(∀x∈r,x∈L)->(∀u∈L,∀v∈L,f u * f v < 0->u.1 * (f u - f v) + f u * (v.1 - u.1)=(cr u v).1 * (f u - f v)/\u.2 * (f u - f v) + f u * (v.2 - u.2)=(cr u v).2 * (f u - f v))->CxOk f cr a r
 | [],a,L,_,_,_=>trivial
 | b::r,a,L,ha,hr,h=>⟨h a ha b (hr b List.mem_cons_self),cxOk_of (hr b List.mem_cons_self) (fun x hx=>hr x (List.mem_cons_of_mem _ hx)) h⟩
structure Lin(n:Nat)(ps:List P2):Prop where
 len:ps.length<=n
 sm:∀p∈ps,Sm p
 on:(∃x,∀p∈ps,p.1=x)∨∃y,∀p∈ps,p.2=y
theorem Lin.trn{n:Nat}{ps:List P2}(L:Lin n ps):∀a∈ps,∀b∈ps,∀c∈ps,trn a b c=0:=fun a ma b mb c mc=>by
 rcases L.on with ⟨x,h⟩|⟨y,h⟩
 ·have e1:=h a ma
  have e2:=h b mb
  have e3:=h c mc
  simp only[TL.trn]
  rw[e1,e2,e3,Int.sub_self,Int.zero_mul,Int.mul_zero,Int.sub_self]
 ·have e1:=h a ma
  have e2:=h b mb
  have e3:=h c mc
  simp only[TL.trn]
  rw[e1,e2,e3,Int.sub_self,Int.zero_mul,Int.mul_zero,Int.sub_self]
abbrev CEq(g:P2->Int)(cr:P2->P2->P2)(u v:P2):Prop:=u.1 * (g u - g v) + g u * (v.1 - u.1)=(cr u v).1 * (g u - g v)/\u.2 * (g u - g v) + g u * (v.2 - u.2)=(cr u v).2 * (g u - g v)
structure XK(g:P2->Int)(cr:P2->P2->P2):Prop where
 same:∀u v:P2,u.1=v.1->g u=g v
 at2:∀u v:P2,(cr u v).2=u.2
 sm:∀u v:P2,Sm u->Sm (cr u v)
 eq:∀u v:P2,u.2=v.2->CEq g cr u v
structure YK(g:P2->Int)(cr:P2->P2->P2):Prop where
 same:∀u v:P2,u.2=v.2->g u=g v
 at1:∀u v:P2,(cr u v).1=u.1
 sm:∀u v:P2,Sm u->Sm (cr u v)
 eq:∀u v:P2,u.1=v.1->CEq g cr u v
theorem sq_nn{a b:Int}(e:a=b):¬ a * b < 0:=by
 subst e
 rcases Int.le_total 0 a with h|h
 ·exact nn2 (.inl ⟨h,h⟩)
 ·exact nn2 (.inr ⟨h,h⟩)
theorem cxW_of{g:P2->Int}{cr:P2->P2->P2}{ps:List P2}(h:∀u∈ps,∀v∈ps,g u * g v < 0->CEq g cr u v):CxW g cr ps:=by
 cases ps with
 | nil=>trivial
 | cons a r=>exact cxOk_of last_mem (fun x hx=>hx) h
theorem lin_step{g:P2->Int}{cr:P2->P2->P2}{n:Nat}{ps:List P2}(K:XK g cr∨YK g cr)(L:Lin n ps):CxW g cr ps/\Lin (2 * n) (cutW g cr ps):=by
 have hl:=len_cutW (f:=g) (cr:=cr) (ps:=ps)
 have l0:=L.len
 rcases K with K|K
 ·have sm:∀p∈cutW g cr ps,Sm p:=fun p hp=>by
   rcases mem_cutW hp with ⟨m,_⟩|⟨u,v,mu,mv,_,rfl⟩
   ·exact L.sm p m
   ·exact K.sm u v (L.sm u mu)
  rcases L.on with ⟨x,h⟩|⟨y,h⟩
  ·refine⟨cxW_of fun u mu v mv z=>absurd z (sq_nn (K.same u v ((h u mu).trans (h v mv).symm))),by omega,sm,.inl ⟨x,fun p hp=>?_⟩⟩
   rcases mem_cutW hp with ⟨m,_⟩|⟨u,v,mu,mv,z,rfl⟩
   ·exact h p m
   ·exact absurd z (sq_nn (K.same u v ((h u mu).trans (h v mv).symm)))
  ·refine⟨cxW_of fun u mu v mv _=>K.eq u v ((h u mu).trans (h v mv).symm),by omega,sm,.inr ⟨y,fun p hp=>?_⟩⟩
   rcases mem_cutW hp with ⟨m,_⟩|⟨u,v,mu,mv,z,rfl⟩
   ·exact h p m
   ·rw[K.at2];exact h u mu
 ·have sm:∀p∈cutW g cr ps,Sm p:=fun p hp=>by
   rcases mem_cutW hp with ⟨m,_⟩|⟨u,v,mu,mv,_,rfl⟩
   ·exact L.sm p m
   ·exact K.sm u v (L.sm u mu)
  rcases L.on with ⟨x,h⟩|⟨y,h⟩
  ·refine⟨cxW_of fun u mu v mv _=>K.eq u v ((h u mu).trans (h v mv).symm),by omega,sm,.inl ⟨x,fun p hp=>?_⟩⟩
   rcases mem_cutW hp with ⟨m,_⟩|⟨u,v,mu,mv,z,rfl⟩
   ·exact h p m
   ·rw[K.at1];exact h u mu
  ·refine⟨cxW_of fun u mu v mv z=>absurd z (sq_nn (K.same u v ((h u mu).trans (h v mv).symm))),by omega,sm,.inr ⟨y,fun p hp=>?_⟩⟩
   rcases mem_cutW hp with ⟨m,_⟩|⟨u,v,mu,mv,z,rfl⟩
   ·exact h p m
   ·exact absurd z (sq_nn (K.same u v ((h u mu).trans (h v mv).symm)))
theorem box_cx{g:P2->Int}{cr:P2->P2->P2}{x0 x1 y0 y1:Int}(K:XK g cr∨YK g cr):CxW g cr (box0 x0 x1 y0 y1):=by
 rcases K with K|K
 ·exact⟨fun z=>absurd z (sq_nn (K.same _ _ rfl)),fun _=>K.eq _ _ rfl,fun z=>absurd z (sq_nn (K.same _ _ rfl)),fun _=>K.eq _ _ rfl,trivial⟩
 ·exact⟨fun _=>K.eq _ _ rfl,fun z=>absurd z (sq_nn (K.same _ _ rfl)),fun _=>K.eq _ _ rfl,fun z=>absurd z (sq_nn (K.same _ _ rfl)),trivial⟩
section
variable {w X:Int}
theorem xk0(hX:-1000 < X/\X < 1000):XK (gx0 w X) (crx X):=⟨fun u v e=>by simp only[gx0,e],fun u v=>rfl,fun u v s=>⟨hX,s.2⟩,fun u v e=>⟨by simp only[gx0,crx];grind,by simp only[gx0,crx,e];grind⟩⟩
theorem xk1(hX:-1000 < X/\X < 1000):XK (gx1 w X) (crx X):=⟨fun u v e=>by simp only[gx1,e],fun u v=>rfl,fun u v s=>⟨hX,s.2⟩,fun u v e=>⟨by simp only[gx1,crx];grind,by simp only[gx1,crx,e];grind⟩⟩
theorem yk0(hX:-1000 < X/\X < 1000):YK (gy0 w X) (cry X):=⟨fun u v e=>by simp only[gy0,e],fun u v=>rfl,fun u v s=>⟨s.1,hX⟩,fun u v e=>⟨by simp only[gy0,cry,e];grind,by simp only[gy0,cry];grind⟩⟩
theorem yk1(hX:-1000 < X/\X < 1000):YK (gy1 w X) (cry X):=⟨fun u v e=>by simp only[gy1,e],fun u v=>rfl,fun u v s=>⟨s.1,hX⟩,fun u v e=>⟨by simp only[gy1,cry,e];grind,by simp only[gy1,cry];grind⟩⟩
end
theorem box_sm{x0 x1 y0 y1:Int}(B:BxOk x0 x1 y0 y1):∀p∈box0 x0 x1 y0 y1,Sm p:=fun p hp=>by
 obtain⟨hx,hy,b1,b2,b3,b4⟩:=B
 simp only[List.mem_cons,List.not_mem_nil,or_false]at hp
 rcases hp with rfl|rfl|rfl|rfl<;>exact⟨⟨by simp only;omega,by simp only;omega⟩,by simp only;omega,by simp only;omega⟩
theorem box_lin{g:P2->Int}{cr:P2->P2->P2}{x0 x1 y0 y1:Int}(B:BxOk x0 x1 y0 y1)(le:∀p∈box0 x0 x1 y0 y1,g p<=0)(on:(∃x,∀p∈box0 x0 x1 y0 y1,0<=g p->p.1=x)∨∃y,∀p∈box0 x0 x1 y0 y1,0<=g p->p.2=y):Lin 8 (cutW g cr (box0 x0 x1 y0 y1)):=by
 have mem:∀p∈cutW g cr (box0 x0 x1 y0 y1),p∈box0 x0 x1 y0 y1/\0<=g p:=fun p hp=>by
  rcases mem_cutW hp with h|⟨u,v,mu,mv,z,rfl⟩
  ·exact h
  ·exact absurd z (nn2 (.inr ⟨le u mu,le v mv⟩))
 refine⟨len_cutW,fun p hp=>box_sm B p (mem p hp).1,?_⟩
 rcases on with ⟨x,h⟩|⟨y,h⟩
 ·exact .inl ⟨x,fun p hp=>h p (mem p hp).1 (mem p hp).2⟩
 ·exact .inr ⟨y,fun p hp=>h p (mem p hp).1 (mem p hp).2⟩
def Std(n:Nat)(x0 x1 y0 y1:Int)(ps:List P2):Prop:=(ps=box0 x0 x1 y0 y1/\BxOk x0 x1 y0 y1)∨(Lin n ps/\¬ (x0 < x1/\y0 < y1))
abbrev mxI(a b:Int):Int:=if a<=b then b else a
abbrev mnI(a b:Int):Int:=if a<=b then a else b
theorem box_all{P:P2->Prop}{x0 x1 y0 y1:Int}(h0:P (x0,y0))(h1:P (x1,y0))(h2:P (x1,y1))(h3:P (x0,y1)):∀p∈box0 x0 x1 y0 y1,P p:=fun p hp=>by
 simp only[List.mem_cons,List.not_mem_nil,or_false]at hp
 rcases hp with rfl|rfl|rfl|rfl<;>assumption
theorem std_cx{g:P2->Int}{cr:P2->P2->P2}{n:Nat}{x0 x1 y0 y1:Int}{ps:List P2}(K:XK g cr∨YK g cr)(S:Std n x0 x1 y0 y1 ps):CxW g cr ps:=by
 rcases S with ⟨rfl,_⟩|⟨L,_⟩
 ·exact box_cx K
 ·exact(lin_step K L).1
theorem std_sm{n:Nat}{x0 x1 y0 y1:Int}{ps:List P2}(S:Std n x0 x1 y0 y1 ps):∀p∈ps,Sm p:=by
 rcases S with ⟨rfl,B⟩|⟨L,_⟩
 ·exact box_sm B
 ·exact L.sm
theorem std_len{n:Nat}{x0 x1 y0 y1:Int}{ps:List P2}(S:Std n x0 x1 y0 y1 ps)(h:n<=100):ps.length<=100:=by
 rcases S with ⟨rfl,B⟩|⟨L,_⟩
 ·simp
 ·exact Nat.le_trans L.len h
theorem le0{w v:Int}(hw:0 < w)(h:v<=0):w * v<=0:=by
 have:=(sc0 (a:=-v) hw).mpr (by omega)
 have e:w * -v=-(w * v):=by grind
 omega
section
variable {w X x0 x1 y0 y1:Int} {n:Nat} {ps:List P2}
theorem std_x0(hw:0 < w)(hX:-1000 < X/\X < 1000)(hn:4<=n)(S:Std n x0 x1 y0 y1 ps):Std (2 * n) (mxI x0 X) x1 y0 y1 (cutW (gx0 w X) (crx X) ps):=by
 rcases S with ⟨rfl,B⟩|⟨L,z⟩
 ·have b:=B.x
  by_cases h1:X<=x0
  ·rw[cx0_a hw b h1,show mxI x0 X=x0 by simp only[mxI];split<;>omega]
   exact .inl ⟨rfl,B⟩
  ·rw[show mxI x0 X=X by simp only[mxI];split<;>omega]
   by_cases h2:X < x1
   ·rw[cx0_b hw (by omega) h2]
    exact .inl ⟨rfl,h2,B.y,hX.1,B.b,B.c,B.d⟩
   ·have nn:∀{v:Int},0<=w * (v - X)->X<=v:=fun h=>by have:=(sc0 hw).mp h;omega
    have L:=box_lin (g:=gx0 w X) (cr:=crx X) B (box_all (le0 hw (show x0 - X<=0 by omega)) (le0 hw (show x1 - X<=0 by omega)) (le0 hw (show x1 - X<=0 by omega)) (le0 hw (show x0 - X<=0 by omega))) (.inl ⟨x1,box_all (fun h=>by have:=nn h;simp only at *;omega) (fun h=>rfl) (fun h=>rfl) (fun h=>by have:=nn h;simp only at *;omega)⟩)
    exact .inr ⟨⟨by have:=L.len;omega,L.sm,L.on⟩,by omega⟩
 ·exact .inr ⟨(lin_step (.inl (xk0 hX)) L).2,by simp only[mxI];split<;>omega⟩
theorem std_x1(hw:0 < w)(hX:-1000 < X/\X < 1000)(hn:4<=n)(S:Std n x0 x1 y0 y1 ps):Std (2 * n) x0 (mnI x1 X) y0 y1 (cutW (gx1 w X) (crx X) ps):=by
 rcases S with ⟨rfl,B⟩|⟨L,z⟩
 ·have b:=B.x
  by_cases h1:x1<=X
  ·rw[cx1_a hw b h1,show mnI x1 X=x1 by simp only[mnI];split<;>omega]
   exact .inl ⟨rfl,B⟩
  ·rw[show mnI x1 X=X by simp only[mnI];split<;>omega]
   by_cases h2:x0 < X
   ·rw[cx1_b hw h2 (by omega)]
    exact .inl ⟨rfl,h2,B.y,B.a,hX.2,B.c,B.d⟩
   ·have nn:∀{v:Int},0<=w * (X - v)->v<=X:=fun h=>by have:=(sc0 hw).mp h;omega
    have L:=box_lin (g:=gx1 w X) (cr:=crx X) B (box_all (le0 hw (show X - x0<=0 by omega)) (le0 hw (show X - x1<=0 by omega)) (le0 hw (show X - x1<=0 by omega)) (le0 hw (show X - x0<=0 by omega))) (.inl ⟨x0,box_all (fun h=>rfl) (fun h=>by have:=nn h;simp only at *;omega) (fun h=>by have:=nn h;simp only at *;omega) (fun h=>rfl)⟩)
    exact .inr ⟨⟨by have:=L.len;omega,L.sm,L.on⟩,by omega⟩
 ·exact .inr ⟨(lin_step (.inl (xk1 hX)) L).2,by simp only[mnI];split<;>omega⟩
theorem std_y0(hw:0 < w)(hX:-1000 < X/\X < 1000)(hn:4<=n)(S:Std n x0 x1 y0 y1 ps):Std (2 * n) x0 x1 (mxI y0 X) y1 (cutW (gy0 w X) (cry X) ps):=by
 rcases S with ⟨rfl,B⟩|⟨L,z⟩
 ·have b:=B.y
  by_cases h1:X<=y0
  ·rw[cy0_a hw b h1,show mxI y0 X=y0 by simp only[mxI];split<;>omega]
   exact .inl ⟨rfl,B⟩
  ·rw[show mxI y0 X=X by simp only[mxI];split<;>omega]
   by_cases h2:X < y1
   ·rw[cy0_b hw (by omega) h2]
    exact .inl ⟨rfl,B.x,h2,B.a,B.b,hX.1,B.d⟩
   ·have nn:∀{v:Int},0<=w * (v - X)->X<=v:=fun h=>by have:=(sc0 hw).mp h;omega
    have L:=box_lin (g:=gy0 w X) (cr:=cry X) B (box_all (le0 hw (show y0 - X<=0 by omega)) (le0 hw (show y0 - X<=0 by omega)) (le0 hw (show y1 - X<=0 by omega)) (le0 hw (show y1 - X<=0 by omega))) (.inr ⟨y1,box_all (fun h=>by have:=nn h;simp only at *;omega) (fun h=>by have:=nn h;simp only at *;omega) (fun h=>rfl) (fun h=>rfl)⟩)
    exact .inr ⟨⟨by have:=L.len;omega,L.sm,L.on⟩,by omega⟩
 ·exact .inr ⟨(lin_step (.inr (yk0 hX)) L).2,by simp only[mxI];split<;>omega⟩
theorem std_y1(hw:0 < w)(hX:-1000 < X/\X < 1000)(hn:4<=n)(S:Std n x0 x1 y0 y1 ps):Std (2 * n) x0 x1 y0 (mnI y1 X) (cutW (gy1 w X) (cry X) ps)∨(cutW (gy1 w X) (cry X) ps=box3 x0 x1 y0 (mnI y1 X)/\BxOk x0 x1 y0 (mnI y1 X)):=by
 rcases S with ⟨rfl,B⟩|⟨L,z⟩
 ·have b:=B.y
  by_cases h1:y1<=X
  ·rw[cy1_a hw b h1,show mnI y1 X=y1 by simp only[mnI];split<;>omega]
   exact .inl (.inl ⟨rfl,B⟩)
  ·rw[show mnI y1 X=X by simp only[mnI];split<;>omega]
   by_cases h2:y0 < X
   ·rw[cy1_b hw h2 (by omega)]
    exact .inr ⟨rfl,B.x,h2,B.a,B.b,B.c,hX.2⟩
   ·have nn:∀{v:Int},0<=w * (X - v)->v<=X:=fun h=>by have:=(sc0 hw).mp h;omega
    have L:=box_lin (g:=gy1 w X) (cr:=cry X) B (box_all (le0 hw (show X - y0<=0 by omega)) (le0 hw (show X - y0<=0 by omega)) (le0 hw (show X - y1<=0 by omega)) (le0 hw (show X - y1<=0 by omega))) (.inr ⟨y0,box_all (fun h=>rfl) (fun h=>rfl) (fun h=>by have:=nn h;simp only at *;omega) (fun h=>by have:=nn h;simp only at *;omega)⟩)
    exact .inl (.inr ⟨⟨by have:=L.len;omega,L.sm,L.on⟩,by omega⟩)
 ·exact .inl (.inr ⟨(lin_step (.inr (yk1 hX)) L).2,by simp only[mnI];split<;>omega⟩)
end
abbrev bxT(b:Int×Int×Int×Int):List T:=(box0 b.1 b.2.1 b.2.2.1 b.2.2.2).map iQ
def interT(b c:Int×Int×Int×Int):List T:=if mxI b.1 c.1 < mnI b.2.1 c.2.1/\mxI b.2.2.1 c.2.2.1 < mnI b.2.2.2 c.2.2.2 then bxT (mxI b.1 c.1,mnI b.2.1 c.2.1,mxI b.2.2.1 c.2.2.1,mnI b.2.2.2 c.2.2.2) else []
abbrev BOk(b:Int×Int×Int×Int):Prop:=BxOk b.1 b.2.1 b.2.2.1 b.2.2.2
def Z02:SpO:=fun ts Q=>(∃t:T,ts=[t,.lst []]/\Q [])∨(∃c,ts=[.lst [],.lst (bxT c)]/\BOk c/\Q [])∨∃b c,ts=[.lst (bxT b),.lst (bxT c)]/\BOk b/\BOk c/\Q (interT b c)
theorem Z2y:∀ts Q,Z02 ts Q->ts.length=2:=fun ts Q h=>by rcases h with ⟨_,rfl,_⟩|⟨_,rfl,_⟩|⟨_,_,rfl,_⟩<;>rfl
def Z0J:WS :=
 (sSeq (sSet 5 (w2 rIxTT (wVar 1) (w2 rSubT (wVar 3) (wC (.int 1)))))
  (sSet 2 (wCall Z0o (aCons (wVar 2) (aCons (wComp (iSeq (wVar 2)) (gN 0) tTrue (wCall Z00 (aCons (wVar 1) (aCons (wVar 2) (aCons (wVar 0) aNil)))) 1 [5,4]) aNil)))))
def Z1c:WS :=
 (sSeq (sIf (tNotT (tTruT (wVar 1))) (sRetF (wLst aNil)) sNext)
  (sSeq (sNoR (sSet 2 (wVar 0)))
  (sSeq (sNoR (sFor (iEnum (aCons (wVar 1) aNil)) (gT 2 (gsC (gN 3) (gsC (gN 4) gs0))) Z0J))
  (sRetF (wCall (frO Z0i) (aCons (wVar 2) aNil))))))
theorem turn_comp{e c:P2}(he:Sm e)(hc:Sm c):∀(r:List P2)(acc:List Int)(x:Slot)(Q:List T->Prop),(∀p∈r,Sm p)->Q ((acc++r.map (trn e c)).map hT) →
  compT (gN 0) tTrue (wCall Z00 (aCons (wVar 1) (aCons (wVar 2) (aCons (wVar 0) aNil)))) (r.map iQ) (acc.map hT) [x,.val (iQ e),.val (iQ c)] Q
 | [],acc,x,Q,_,h=>by
  simp only[List.map_nil,List.append_nil]at h
  simp only[List.map,compT]
  exact h
 | p::r,acc,x,Q,hp,h=>by
  have i1:=turn_comp he hc r (acc++[trn e c p]) (.val (iQ p)) Q (fun q hq=>hp q (List.mem_cons_of_mem _ hq)) (by simpa using h)
  simp only[List.map_append,List.map_cons,List.map_nil]at i1
  simp only[List.map,compT]
  refine⟨fun _=>?_,fun z=>(by cases z)⟩
  show Z00 [iQ e,iQ c,iQ p] (fun t=>compT (gN 0) tTrue (wCall Z00 (aCons (wVar 1) (aCons (wVar 2) (aCons (wVar 0) aNil)))) (r.map iQ) (acc.map hT++[t]) [.val (iQ p),.val (iQ e),.val (iQ c)] Q)
  exact turn_cal he hc (hp p List.mem_cons_self) i1
theorem trn_lim{e c p:P2}(he:Sm e)(hc:Sm c)(hp:Sm p):Lim 30 (trn e c p):=by
 obtain⟨⟨a1,a2⟩,a3,a4⟩:=hp
 obtain⟨⟨b1,b2⟩,b3,b4⟩:=he
 obtain⟨⟨c1,c2⟩,c3,c4⟩:=hc
 have l:∀{i:Int},-10000 < i->i < 10000->Lim 4 i:=fun h1 h2=>Lim.of (by show -10000 < _;omega) (by show _ < 10000;omega)
 exact(((l (by omega) (by omega)).mul (l (by omega) (by omega))).sub ((l (by omega) (by omega)).mul (l (by omega) (by omega)))).mono (by decide)
theorem both_b0{D:DT}{us:List T}{e c:P2}{g:P2->Int}{cr:P2->P2->P2}{ps:List P2}{k:Int}{s0 s5:Slot}(he:Sm e)(hc:Sm c)(ee:atI us (k - 1)=some (iQ e))(fg:∀p,trn e c p=g p)(sm:∀p∈ps,Sm p)(hl:ps.length<=100)(cx:CxW g cr ps)
  (h:∀s5,D.nx [s0,.val (.lst us),.val (.lst ((cutW g cr ps).map iQ)),.val (.int k),.val (iQ c),s5]) :
  Z0J D [s0,.val (.lst us),.val (.lst (ps.map iQ)),.val (.int k),.val (iQ c),s5]:=by
 unfold Z0J
 obtain⟨W0,hW0⟩:∃W,W=(wCall Z00 (aCons (wVar 1) (aCons (wVar 2) (aCons (wVar 0) aNil)))):=⟨_,rfl⟩
 rw[← hW0]
 walk_at "go"
 rw[ee]
 walk_at "tw"
 rw[hW0]
 refine⟨by rw[List.length_map];omega,?_⟩
 refine turn_comp he hc ps [] _ _ sm ?_
 rw[List.nil_append]
 have eg:trn e c=g:=funext fg
 rw[eg]
 exact⟨ps,g,cr,rfl,hl,fun p hp=>⟨sm p hp,by rw[← fg];exact trn_lim he hc (sm p hp)⟩,cx,h _⟩
theorem boxed{Q:List T->Prop}{n:Nat}{x0 x1 y0 y1:Int}{ps:List P2}(hn:n<=300)(S:Std n x0 x1 y0 y1 ps∨(ps=box3 x0 x1 y0 y1/\BxOk x0 x1 y0 y1))(q:Q (if x0 < x1/\y0 < y1 then bxT (x0,x1,y0,y1) else [])):Z0i [.lst (ps.map iQ)] Q:=by
 rcases S with (⟨rfl,B⟩|⟨L,z⟩)|⟨rfl,B⟩
 ·rw[if_pos ⟨B.x,B.y⟩]at q
  exact .inr ⟨x0,x1,y0,y1,.inl rfl,B,q⟩
 ·rw[if_neg z]at q
  exact .inl ⟨ps,rfl,Nat.le_trans L.len hn,L.sm,L.trn,q⟩
 ·rw[if_pos ⟨B.x,B.y⟩]at q
  exact .inr ⟨x0,x1,y0,y1,.inr rfl,B,q⟩
theorem both_main{Q:List T->Prop}{ps:List P2}{x0 x1 y0 y1:Int}{c:Int×Int×Int×Int}(S:Std 4 x0 x1 y0 y1 ps)(C:BOk c)(q:Q (if mxI x0 c.1 < mnI x1 c.2.1/\mxI y0 c.2.2.1 < mnI y1 c.2.2.2 then bxT (mxI x0 c.1,mnI x1 c.2.1,mxI y0 c.2.2.1,mnI y1 c.2.2.2) else [])) :
  Z1c {nx:=fun _=>False,rt:=lstQ Q} (startT 6 [.lst (ps.map iQ),.lst (bxT c)]):=by
 obtain⟨X0,X1,Y0,Y1⟩:=c
 obtain⟨hx,hy,b1,b2,b3,b4⟩:=C
 simp only at hx hy b1 b2 b3 b4 q
 have s00:Sm (X0,Y0):=⟨⟨by show -1000 < X0;omega,by show X0 < 1000;omega⟩,by show -1000 < Y0;omega,by show Y0 < 1000;omega⟩
 have s10:Sm (X1,Y0):=⟨⟨by show -1000 < X1;omega,by show X1 < 1000;omega⟩,by show -1000 < Y0;omega,by show Y0 < 1000;omega⟩
 have s11:Sm (X1,Y1):=⟨⟨by show -1000 < X1;omega,by show X1 < 1000;omega⟩,by show -1000 < Y1;omega,by show Y1 < 1000;omega⟩
 have s01:Sm (X0,Y1):=⟨⟨by show -1000 < X0;omega,by show X0 < 1000;omega⟩,by show -1000 < Y1;omega,by show Y1 < 1000;omega⟩
 have wx:0 < X1 - X0:=by omega
 have wy:0 < Y1 - Y0:=by omega
 have f0:∀p,trn (X0,Y1) (X0,Y0) p=gx0 (Y1 - Y0) X0 p:=fun p=>by simp only[trn,gx0];grind
 have f1:∀p,trn (X0,Y0) (X1,Y0) p=gy0 (X1 - X0) Y0 p:=fun p=>by simp only[trn,gy0];grind
 have f2:∀p,trn (X1,Y0) (X1,Y1) p=gx1 (Y1 - Y0) X1 p:=fun p=>by simp only[trn,gx1];grind
 have f3:∀p,trn (X1,Y1) (X0,Y1) p=gy1 (X1 - X0) Y1 p:=fun p=>by simp only[trn,gy1];grind
 have r0:-1000 < X0/\X0 < 1000:=⟨by omega,by omega⟩
 have r1:-1000 < X1/\X1 < 1000:=⟨by omega,by omega⟩
 have r2:-1000 < Y0/\Y0 < 1000:=⟨by omega,by omega⟩
 have r3:-1000 < Y1/\Y1 < 1000:=⟨by omega,by omega⟩
 have S1:=std_x0 wy r0 (by decide) S
 have S2:=std_y0 wx r2 (by decide) S1
 have S3:=std_x1 wy r1 (by decide) S2
 have S4:=std_y1 wx r3 (by decide) S3
 obtain⟨SP,hSP⟩:∃S,S=frO Z0i:=⟨_,rfl⟩
 have cp:∀{ps:List P2},(Std (2 * (2 * (2 * (2 * 4)))) (mxI x0 X0) (mnI x1 X1) (mxI y0 Y0) (mnI y1 Y1) ps∨(ps=box3 (mxI x0 X0) (mnI x1 X1) (mxI y0 Y0) (mnI y1 Y1)/\BxOk (mxI x0 X0) (mnI x1 X1) (mxI y0 Y0) (mnI y1 Y1)))->SP [.lst (ps.map iQ)] (lstQ Q):=fun S=>by
  rw[hSP]
  exact boxed (by decide) S q
 unfold Z1c
 obtain⟨W0,hW0⟩:∃W,W=Z0J:=⟨_,rfl⟩
 rw[← hW0,← hSP]
 walk_at "go"
 refine Eq.mpr (congrFun (congrFun hW0 _) _) ?_
 refine both_b0 (ps:=ps) (k:=0) (e:=(X0,Y1)) (c:=(X0,Y0)) s01 s00 rfl f0 (std_sm S) (std_len S (by decide)) (std_cx (.inl (xk0 r0)) S) fun s5=>?_
 walk_at "go"
 refine Eq.mpr (congrFun (congrFun hW0 _) _) ?_
 refine both_b0 (k:=1) (e:=(X0,Y0)) (c:=(X1,Y0)) s00 s10 rfl f1 (std_sm S1) (std_len S1 (by decide)) (std_cx (.inr (yk0 r2)) S1) fun s5=>?_
 walk_at "go"
 refine Eq.mpr (congrFun (congrFun hW0 _) _) ?_
 refine both_b0 (k:=2) (e:=(X1,Y0)) (c:=(X1,Y1)) s10 s11 rfl f2 (std_sm S2) (std_len S2 (by decide)) (std_cx (.inl (xk1 r1)) S2) fun s5=>?_
 walk_at "go"
 refine Eq.mpr (congrFun (congrFun hW0 _) _) ?_
 refine both_b0 (k:=3) (e:=(X1,Y1)) (c:=(X0,Y1)) s11 s01 rfl f3 (std_sm S3) (std_len S3 (by decide)) (std_cx (.inr (yk1 r3)) S3) fun s5=>?_
 walk_at "go"
 exact cp S4
theorem Z2L:∀ts Q,Z02 ts Q->Z1c {nx:=fun _=>False,rt:=lstQ Q} (startT 6 ts):=by
 rintro _ Q (⟨t,rfl,q⟩|⟨c,rfl,C,q⟩|⟨b,c,rfl,B,C,q⟩)
 ·unfold Z1c
  obtain⟨W0,hW0⟩:∃W,W=Z0J:=⟨_,rfl⟩
  rw[← hW0]
  walk_at "go"
  exact q
 ·refine both_main (ps:=[]) (x0:=0) (x1:=0) (y0:=0) (y1:=0) (.inr ⟨⟨by simp,fun p hp=>absurd hp (by simp),.inl ⟨0,fun p hp=>absurd hp (by simp)⟩⟩,by decide⟩) C ?_
  rw[if_neg (by simp only[mxI,mnI];split<;>split<;>omega)]
  exact q
 ·exact both_main (.inl ⟨rfl,B⟩) C q
def Z0K:SpT:=fun ts Q=>∃(c k many:Int),ts=[.int c,.int k,.int many]/\0<=k/\k<=1000/\1<=many/\many<=10 ^ 12/\∀r:Int,0<=r->r < many->Q (.int r)
theorem Z2Y:∀ts Q,Z0K ts Q->ts.length=3:=by rintro ts Q ⟨_,_,_,e,_⟩;subst e;rfl
def Z1d:WS :=
 (sSet 4 (w2 rDivT (wVar 4) (w2 rPowT (wC (.int 10)) (wC (.int 10)))))
def Z1e:WS :=
 (sSeq (sSet 3 (w2 rModT (w2 rMulT (w2 rAddT (w2 rAddT (w2 rAddT (w2 rModT (wVar 0) (wC (.int 2147483647))) (w2 rMulT (w2 rMulT (wC (.int 7919)) (wVar 1)) (wVar 1))) (w2 rMulT (wC (.int 31)) (wVar 1))) (wC (.int 1))) (wC (.int 48271))) (wC (.int 2147483647))))
  (sSeq (sSet 3 (w2 rModT (w2 rAddT (w2 rAddT (w2 rMulT (wVar 3) (wVar 3)) (w2 rMulT (wC (.int 69621)) (wVar 1))) (wC (.int 7))) (wC (.int 2147483629))))
  (sRet (w2 rModT (w2 rModT (w2 rMulT (wVar 3) (wVar 3)) (wC (.int 2147483587))) (wVar 2)))))
def Z2z:WS :=
 (sSeq (sIf (tCmpT cGeT (wVar 0) (w2 rPowT (wC (.int 10)) (wC (.int 18)))) (sSeq (sSet 4 (wVar 0))
  (sSeq (sFor (iRange1 (aCons (wVar 1) aNil)) (gN 5) Z1d)
  (sIf (tCmpT cGtT (wVar 4) (wC (.int 0))) (sRet (w2 rModT (w2 rModT (wVar 4) (w2 rPowT (wC (.int 10)) (wC (.int 10)))) (wVar 2))) sNext))) sNext)
  Z1e)
theorem draw_loop{D:DT}{c k many:Int}{s3:Slot}:∀(n:Nat)(lo v:Int)(s5:Slot),(∀v s5,D.nx [.val (.int c),.val (.int k),.val (.int many),s3,.val (.int v),s5]) →
  forT (gN 5) Z1d (rangeT lo n) D [.val (.int c),.val (.int k),.val (.int many),s3,.val (.int v),s5]
 | 0,lo,v,s5,h=>by
  simp only[rangeT,forT]
  exact h _ _
 | n + 1,lo,v,s5,h=>by
  have ih:=fun v s5=>draw_loop (D:=D) (c:=c) (k:=k) (many:=many) (s3:=s3) n (lo + 1) v s5 h
  have cp:=cpow10 10 (by decide)
  have dv:DivOk (10 ^ Int.toNat 10):=divOk (by decide) (Lim.of (n:=11) (by decide) (by decide))
  simp only[rangeT,forT]
  generalize forT (gN 5) Z1d (rangeT (lo + 1) n) D=F at ih ⊢
  unfold Z1d
  walk_at "go"
  exact ih _ _
theorem draw_k0{Q:T->Prop}{c k many:Int}{s3 s4 s5:Slot}(h0:0<=k)(h1:k<=1000)(m0:1<=many)(h:∀r:Int,0<=r->r < many->Q (.int r)):Z1e {nx:=fun _=>Q .non,rt:=Q} [.val (.int c),.val (.int k),.val (.int many),s3,s4,s5]:=by
 have lk:Lim 4 k:=Lim.of (by omega) (by omega)
 have l7:Lim 4 (7919:Int):=Lim.of (by decide) (by decide)
 have l31:Lim 2 (31:Int):=Lim.of (by decide) (by decide)
 have l48:Lim 5 (48271:Int):=Lim.of (by decide) (by decide)
 have l69:Lim 5 (69621:Int):=Lim.of (by decide) (by decide)
 have f1:=fmod_pos c (b:=2147483647) (by decide)
 have a1:=(l7.mul lk).mul lk
 have a2:=l31.mul lk
 have a3:Lim 14 (c.fmod 2147483647 + 7919 * k * k + 31 * k + 1):=by
  have:=a1.bd
  have:=a2.bd
  exact Lim.of (by omega) (by omega)
 unfold Z1e
 walk_at "go"
 refine⟨mulOk (l7.mul lk) lk,mulOk l31 lk,mulOk a3 l48,by decide,?_⟩
 generalize ((c.fmod 2147483647 + 7919 * k * k + 31 * k + 1) * 48271)=u
 have f2:=fmod_pos u (b:=2147483647) (by decide)
 have a4:Lim 10 (u.fmod 2147483647):=Lim.of (by omega) (by omega)
 walk_at "go"
 generalize (u.fmod 2147483647 * u.fmod 2147483647 + 69621 * k + 7)=v
 have f3:=fmod_pos v (b:=2147483629) (by decide)
 have a5:Lim 10 (v.fmod 2147483629):=Lim.of (by omega) (by omega)
 walk_at "go"
 refine⟨by omega,?_⟩
 generalize ((v.fmod 2147483629 * v.fmod 2147483629).fmod 2147483587)=x
 have f4:=fmod_pos x (b:=many) (by omega)
 exact h _ f4.1 f4.2
theorem Z35:∀ts Q,Z0K ts Q->Z2z {nx:=fun _=>Q .non,rt:=Q} (startT 6 ts):=by
 rintro _ Q ⟨c,k,many,rfl,h0,h1,m0,m1,h⟩
 have cp:=cpow10 10 (by decide)
 have cp18:=cpow10 18 (by decide)
 have fin:∀s3 s4 s5:Slot,Z1e {nx:=fun _=>Q .non,rt:=Q} [.val (.int c),.val (.int k),.val (.int many),s3,s4,s5]:=fun s3 s4 s5=>draw_k0 h0 h1 m0 h
 unfold Z2z
 obtain⟨W0,hW0⟩:∃W,W=Z1d:=⟨_,rfl⟩
 obtain⟨W1,hW1⟩:∃W,W=Z1e:=⟨_,rfl⟩
 rw[← hW0,← hW1]
 rw[← hW1]at fin
 walk_at "go"
 refine⟨fun _=>?_,fun _=>fin _ _ _⟩
 walk_at "go"
 refine⟨by omega,?_⟩
 rw[hW0]
 refine draw_loop _ _ _ _ fun v s5=>?_
 walk_at "go"
 refine⟨fun _=>?_,fun _=>fin _ _ _⟩
 walk_at "go"
 refine⟨by omega,?_⟩
 have f4:=fmod_pos (v.fmod (10 ^ Int.toNat 10)) (b:=many) (by omega)
 exact h _ f4.1 f4.2
def Z1h:SpT:=fun ts Q=>∃a b:Int,ts=[.int a,.int b]/\0 < b/\Lim 2000 b/\Q (fr a b)
theorem Z36:∀ts Q,Z1h ts Q->ts.length=2:=by rintro ts Q ⟨_,_,e,_⟩;subst e;rfl
def Z2t:WS :=
 (sPar 2 3 (aCons (wVar 3) (aCons (w2 rModT (wVar 2) (wVar 3)) aNil)))
def Z2S:WS :=
 (sSeq (sSet 2 (wCB rAbsT (aCons (wVar 0) aNil)))
  (sSeq (sSet 3 (wVar 1))
  (sSeq (sWhile (tCmpT cNeT (wVar 3) (wC (.int 0))) Z2t)
  (sRet (wTup (aCons (w2 rDivT (wVar 0) (wVar 2)) (aCons (w2 rDivT (wVar 1) (wVar 2)) aNil)))))))
theorem abs_ite3(a:Int):(if a < 0 then -a else a)=(a.natAbs:Int):=by split<;>omega
theorem Z3c:∀ts Q,Z1h ts Q->Z2S {nx:=fun _=>Q .non,rt:=Q} (startT 4 ts):=by
 rintro _ Q ⟨a,b,rfl,hb,lb,h⟩
 have g0:0 < Int.gcd a b:=Int.gcd_pos_iff.mpr (Or.inr (by omega))
 have gl:(Int.gcd a b:Int).natAbs<=b.natAbs:=by
  have d:=Int.gcd_dvd_right a b
  have:=Int.natAbs_dvd_natAbs.mpr d
  exact Nat.le_of_dvd (by omega) this
 have dv:DivOk (Int.gcd a b:Int):=divOk (by omega) (lb.le gl)
 unfold Z2S
 walk_at "tw"
 refine⟨fun m τ=>∃x y:Int,τ=[.val (.int a),.val (.int b),.val (.int x),.val (.int y)]/\0<=x/\0<=y/\Int.gcd x y=Int.gcd a b/\m=y.natAbs,⟨_,_,_,rfl,?_,?_,?_,rfl⟩,?_⟩
 ·rw[abs_ite3];omega
 ·omega
 ·rw[abs_ite3];simp[Int.gcd]
 rintro m τ ⟨x,y,rfl,hx,hy,hg,rfl⟩
 unfold Z2t
 walk_at "tw"
 refine⟨fun c=>?_,fun c=>?_⟩
 ·have c':y≠0:=by simpa using c
  have f:=fmod_pos x (b:=y) (by omega)
  exact⟨c',_,fmod_abs_lt x c',_,_,rfl,by omega,f.1,by rw[gcd_step];exact hg,rfl⟩
 ·have e:y=0:=by simpa using c
  subst e
  rw[Int.gcd_zero_right]at hg
  have hx':x=(Int.gcd a b:Int):=by omega
  subst hx'
  unfold fr frN frD frG at h
  rw[if_neg (by omega)]at h
  exact⟨dv,dv,h⟩
def Z11:SpT:=fun ts Q=>∃a b c d:Int,ts=[fr a b,fr c d]/\Two 900 a b c d/\Q (fr (a * d + c * b) (b * d))
theorem Z37:∀ts Q,Z11 ts Q->ts.length=2:=by rintro ts Q ⟨_,_,_,_,e,_⟩;subst e;rfl
def Z2T:WS :=
 (sRet (wCall Z1h (aCons (w2 rAddT (w2 rMulT (w2 rIxTT (wVar 0) (wC (.int 0))) (w2 rIxTT (wVar 1) (wC (.int 1)))) (w2 rMulT (w2 rIxTT (wVar 1) (wC (.int 0))) (w2 rIxTT (wVar 0) (wC (.int 1))))) (aCons (w2 rMulT (w2 rIxTT (wVar 0) (wC (.int 1))) (w2 rIxTT (wVar 1) (wC (.int 1)))) aNil))))
theorem Z3d:∀ts Q,Z11 ts Q->Z2T {nx:=fun _=>Q .non,rt:=Q} (startT 2 ts):=by
 rintro _ Q ⟨a,b,c,d,rfl,⟨hb,hd,la,lb,lc,ld⟩,h⟩
 rw[← fr_sum hb hd]at h
 have q:=Int.mul_pos (frD_pos (n:=a) hb) (frD_pos (n:=c) hd)
 have la:=frN_lim hb la
 have lb:=frD_lim (n:=a) hb lb
 have lc:=frN_lim hd lc
 have ld:=frD_lim (n:=c) hd ld
 unfold Z2T fr
 walk_at "tw"
 exact⟨mulOk la ld,mulOk lc lb,mulOk lb ld,_,_,rfl,q,(lb.mul ld).mono (by decide),h⟩
def Z0r:SpT:=fun ts Q=>∃x y:Int,ts=[fr x 12,fr y 12]/\Lim 3 x/\Lim 3 y/\Q (.bl (decide (x < y)))
theorem Z2U:∀ts Q,Z0r ts Q->ts.length=2:=by rintro ts Q ⟨_,_,e,_⟩;subst e;rfl
def Z2M:WS :=
 (sRet (wCmp cLtT (w2 rMulT (w2 rIxTT (wVar 0) (wC (.int 0))) (w2 rIxTT (wVar 1) (wC (.int 1)))) (w2 rMulT (w2 rIxTT (wVar 1) (wC (.int 0))) (w2 rIxTT (wVar 0) (wC (.int 1))))))
theorem Z2Z:∀ts Q,Z0r ts Q->Z2M {nx:=fun _=>Q .non,rt:=Q} (startT 2 ts):=by
 rintro _ Q ⟨x,y,rfl,lx,ly,h⟩
 exact Z1T _ Q (und_cal lx ly h)
theorem to12{a b:Int}(h1:1<=b)(h2:b<=4):∃m:Int,fr a b=fr (a * m) 12/\3<=m/\m<=12:=by
 have hb:b=1∨b=2∨b=3∨b=4:=by omega
 rcases hb with rfl|rfl|rfl|rfl
 ·exact⟨12,fr_eq (by decide) (by decide) (by omega),by decide,by decide⟩
 ·exact⟨6,fr_eq (by decide) (by decide) (by omega),by decide,by decide⟩
 ·exact⟨4,fr_eq (by decide) (by decide) (by omega),by decide,by decide⟩
 ·exact⟨3,fr_eq (by decide) (by decide) (by omega),by decide,by decide⟩
theorem small3{x:Int}(h1:-900 < x)(h2:x < 900):Lim 3 x:=Lim.of (by show -1000 < x;omega) (by show x < 1000;omega)
theorem add12{x y:Int}{Q:T->Prop}(lx:Lim 3 x)(ly:Lim 3 y)(q:Q (fr (x + y) 12)):Z11 [fr x 12,fr y 12] Q:=by
 refine⟨x,12,y,12,rfl,⟨by decide,by decide,lx.mono (by decide),l12.mono (by decide),ly.mono (by decide),l12.mono (by decide)⟩,?_⟩
 rw[fr_sum1 (by decide)]
 exact q
def Z15:SpT:=fun ts Q=>∃c k:Int,ts=[.int c,.int k]/\0<=k/\k<=100/\∀x0 x1:Int,x0 < x1 -> -100 < x0->x1 < 200->Q (.tup [fr x0 12,fr x1 12])
theorem Z38:∀ts Q,Z15 ts Q->ts.length=2:=by rintro ts Q ⟨_,_,e,_⟩;subst e;rfl
def Z2V:WS :=
 (sSeq (sSet 2 (wCall Z1h (aCons (w2 rSubT (wCall Z0K (aCons (wVar 0) (aCons (wVar 1) (aCons (wC (.int 9)) aNil)))) (wC (.int 4))) (aCons (w2 rAddT (wC (.int 1)) (wCall Z0K (aCons (wVar 0) (aCons (w2 rAddT (wVar 1) (wC (.int 1))) (aCons (wC (.int 4)) aNil))))) aNil))))
  (sSeq (sSet 3 (wCall Z1h (aCons (w2 rAddT (wC (.int 1)) (wCall Z0K (aCons (wVar 0) (aCons (w2 rAddT (wVar 1) (wC (.int 2))) (aCons (wC (.int 8)) aNil))))) (aCons (w2 rAddT (wC (.int 1)) (wCall Z0K (aCons (wVar 0) (aCons (w2 rAddT (wVar 1) (wC (.int 3))) (aCons (wC (.int 4)) aNil))))) aNil))))
  (sRet (wTup (aCons (wVar 2) (aCons (wCall Z11 (aCons (wVar 2) (aCons (wVar 3) aNil))) aNil))))))
theorem mul_bd{a m A:Int}(h1:-A<=a)(h2:a<=A)(h3:3<=m)(h4:m<=12)(hA:0<=A):-(12 * A)<=a * m/\a * m<=12 * A:=by
 have u1:=Int.mul_nonneg (show 0<=A - a by omega) (show 0<=m by omega)
 have u2:=Int.mul_nonneg (show 0<=A + a by omega) (show 0<=m by omega)
 have u3:=Int.mul_nonneg hA (show 0<=12 - m by omega)
 have e1:(A - a) * m=A * m - a * m:=by grind
 have e2:(A + a) * m=A * m + a * m:=by grind
 have e3:A * (12 - m)=12 * A - A * m:=by grind
 omega
theorem Z3e:∀ts Q,Z15 ts Q->Z2V {nx:=fun _=>Q .non,rt:=Q} (startT 4 ts):=by
 rintro _ Q ⟨c,k,rfl,h0,h1,h⟩
 obtain⟨S,hS⟩:∃S,S=Z11:=⟨_,rfl⟩
 have ca:∀{x y:Int}{Q:T->Prop},Lim 3 x->Lim 3 y->Q (fr (x + y) 12)->S [fr x 12,fr y 12] Q:=fun a b q=>by rw[hS];exact add12 a b q
 unfold Z2V
 rw[← hS]
 walk_at "go"
 refine⟨c,k,9,rfl,h0,by omega,by decide,by decide,fun a a0 a1=>?_⟩
 walk_at "go"
 refine⟨c,k + 1,4,rfl,by omega,by omega,by decide,by decide,fun b b0 b1=>?_⟩
 walk_at "go"
 refine⟨a - 4,1 + b,rfl,by omega,(small3 (by omega) (by omega)).mono (by decide),?_⟩
 obtain⟨m,e1,m1,m2⟩:=to12 (a:=a - 4) (b:=1 + b) (by omega) (by omega)
 rw[e1]
 have bd:=mul_bd (a:=a - 4) (A:=4) (by omega) (by omega) m1 m2 (by decide)
 generalize (a - 4) * m=x at bd ⊢
 walk_at "go"
 refine⟨c,k + 2,8,rfl,by omega,by omega,by decide,by decide,fun e e0 e1=>?_⟩
 walk_at "go"
 refine⟨c,k + 3,4,rfl,by omega,by omega,by decide,by decide,fun g g0 g1=>?_⟩
 walk_at "go"
 refine⟨1 + e,1 + g,rfl,by omega,(small3 (by omega) (by omega)).mono (by decide),?_⟩
 obtain⟨n,e2,n1,n2⟩:=to12 (a:=1 + e) (b:=1 + g) (by omega) (by omega)
 rw[e2]
 have bd2:=mul_bd (a:=1 + e) (A:=8) (by omega) (by omega) n1 n2 (by decide)
 have pos:0 < (1 + e) * n:=Int.mul_pos (by omega) (by omega)
 generalize (1 + e) * n=y at bd2 pos ⊢
 walk_at "go"
 refine ca (small3 (by omega) (by omega)) (small3 (by omega) (by omega)) ?_
 walk_at "go"
 exact h _ _ (by omega) (by omega) (by omega)
def Z0v:SpT:=fun ts Q=>∃a b c d:Int,ts=[.tup [fr a 12,fr b 12],.tup [fr c 12,fr d 12]]/\(Lim 3 a/\Lim 3 b/\Lim 3 c/\Lim 3 d)/\Q (.lst (if a < b/\c < d then bxT (a,b,c,d) else []))
theorem Z2A:∀ts Q,Z0v ts Q->ts.length=2:=by rintro ts Q ⟨_,_,_,_,e,_⟩;subst e;rfl
def Z1P:WS :=
 (sSeq (sIf (tOrT (tNotT (tVal (wCall Z0r (aCons (w2 rIxTT (wVar 0) (wC (.int 0))) (aCons (w2 rIxTT (wVar 0) (wC (.int 1))) aNil))))) (tNotT (tVal (wCall Z0r (aCons (w2 rIxTT (wVar 1) (wC (.int 0))) (aCons (w2 rIxTT (wVar 1) (wC (.int 1))) aNil)))))) (sRet (wLst aNil)) sNext)
  (sRet (wLst (aCons (wTup (aCons (w2 rIxTT (wVar 0) (wC (.int 0))) (aCons (w2 rIxTT (wVar 1) (wC (.int 0))) aNil))) (aCons (wTup (aCons (w2 rIxTT (wVar 0) (wC (.int 1))) (aCons (w2 rIxTT (wVar 1) (wC (.int 0))) aNil))) (aCons (wTup (aCons (w2 rIxTT (wVar 0) (wC (.int 1))) (aCons (w2 rIxTT (wVar 1) (wC (.int 1))) aNil))) (aCons (wTup (aCons (w2 rIxTT (wVar 0) (wC (.int 0))) (aCons (w2 rIxTT (wVar 1) (wC (.int 1))) aNil))) aNil)))))))
theorem Z2N:∀ts Q,Z0v ts Q->Z1P {nx:=fun _=>Q .non,rt:=Q} (startT 2 ts):=by
 rintro _ Q ⟨a,b,c,d,rfl,⟨la,lb,lc,ld⟩,h⟩
 obtain⟨S,hS⟩:∃S,S=Z0r:=⟨_,rfl⟩
 have cu:∀{x y:Int}{Q:T->Prop},Lim 3 x->Lim 3 y->Q (.bl (decide (x < y)))->S [fr x 12,fr y 12] Q:=fun a b c=>by rw[hS];exact⟨_,_,rfl,a,b,c⟩
 unfold Z1P
 rw[← hS]
 walk_at "go"
 refine cu la lb ?_
 by_cases h1:a < b
 ·rw[decide_eq_true h1]
  walk_at "go"
  refine cu lc ld ?_
  by_cases h2:c < d
  ·rw[decide_eq_true h2]
   rw[if_pos ⟨h1,h2⟩]at h
   walk_at "go"
   exact h
  ·rw[decide_eq_false h2]
   rw[if_neg (fun z=>h2 z.2)]at h
   walk_at "go"
   exact h
 ·rw[decide_eq_false h1]
  rw[if_neg (fun z=>h1 z.1)]at h
  walk_at "go"
  exact h
def Z1f:SpT:=fun ts Q=>∃a b c d:Int,ts=[.tup [fr a 12,fr b 12],.tup [fr c 12,fr d 12]]/\(Lim 3 a/\Lim 3 b/\Lim 3 c/\Lim 3 d)/\Q (.tup [fr (mxI a c) 12,fr (mnI b d) 12])
theorem Z30:∀ts Q,Z1f ts Q->ts.length=2:=by rintro ts Q ⟨_,_,_,_,e,_⟩;subst e;rfl
def Z1s:WS :=
 (sSeq (sIf (tVal (wCall Z0r (aCons (w2 rIxTT (wVar 0) (wC (.int 1))) (aCons (w2 rIxTT (wVar 1) (wC (.int 1))) aNil)))) (sRet (wTup (aCons (wVar 2) (aCons (w2 rIxTT (wVar 0) (wC (.int 1))) aNil)))) sNext)
  (sRet (wTup (aCons (wVar 2) (aCons (w2 rIxTT (wVar 1) (wC (.int 1))) aNil)))))
def Z2B:WS :=
 (sSeq (sSet 2 (w2 rIxTT (wVar 0) (wC (.int 0))))
  (sSeq (sIf (tVal (wCall Z0r (aCons (w2 rIxTT (wVar 0) (wC (.int 0))) (aCons (w2 rIxTT (wVar 1) (wC (.int 0))) aNil)))) (sSet 2 (w2 rIxTT (wVar 1) (wC (.int 0)))) sNext)
  Z1s))
theorem Z39:∀ts Q,Z1f ts Q->Z2B {nx:=fun _=>Q .non,rt:=Q} (startT 3 ts):=by
 rintro _ Q ⟨a,b,c,d,rfl,⟨la,lb,lc,ld⟩,h⟩
 obtain⟨S,hS⟩:∃S,S=Z0r:=⟨_,rfl⟩
 have cu:∀{x y:Int}{Q:T->Prop},Lim 3 x->Lim 3 y->Q (.bl (decide (x < y)))->S [fr x 12,fr y 12] Q:=fun a b c=>by rw[hS];exact⟨_,_,rfl,a,b,c⟩
 have k0:∀m:Int,m=mxI a c->Z1s {nx:=fun _=>Q .non,rt:=Q} [.val (.tup [fr a 12,fr b 12]),.val (.tup [fr c 12,fr d 12]),.val (fr m 12)]:=fun m em=>by
  rw[← em]at h
  unfold Z1s
  rw[← hS]
  walk_at "go"
  refine cu lb ld ?_
  by_cases h2:b < d
  ·rw[decide_eq_true h2]
   rw[show mnI b d=b by simp only[mnI];split<;>omega]at h
   walk_at "go"
   exact h
  ·rw[decide_eq_false h2]
   rw[show mnI b d=d by simp only[mnI];split<;>omega]at h
   walk_at "go"
   exact h
 unfold Z2B
 obtain⟨K0,hK0⟩:∃W,W=Z1s:=⟨_,rfl⟩
 rw[← hK0]at k0 ⊢
 rw[← hS]
 walk_at "go"
 refine cu la lc ?_
 by_cases h1:a < c
 ·rw[decide_eq_true h1]
  walk_at "go"
  exact k0 c (by simp only[mxI];split<;>omega)
 ·rw[decide_eq_false h1]
  walk_at "go"
  exact k0 a (by simp only[mxI];split<;>omega)
def Four(us:List T):Prop:=us=[]∨∃b,us=bxT b
theorem four_ok{us vs:List T}(h:Four us)(h':Four vs):EqOk (.lst us) (.lst vs):=by
 have pl:∀{us:List T},Four us->plain (.lst us)=true/\dep (.lst us)<=60:=fun h=>by
  rcases h with rfl|⟨b,rfl⟩
  ·exact⟨by simp[plain,pd,pds,PyData.canLay0,PyData.canLayAll0],by simp[dep,pd,pds,PyData.depth,PyData.depthAll]⟩
  ·exact⟨by simp[plain,fr,pd,pds,PyData.canLay0,PyData.canLayAll0],by simp[dep,fr,pd,pds,PyData.depth,PyData.depthAll]⟩
 exact⟨(pl h).1,(pl h').1,by have:=(pl h).2;omega⟩
theorem four_self{us:List T}(h:Four us):eqT (.lst us) (.lst us)=true:=eqT_self _ (four_ok h h).1
def Z0N:SpT:=fun ts Q=>∃us:List T,ts=[.lst us,.lst us]/\Four us/\Q (.bl true)
theorem Z2W:∀ts Q,Z0N ts Q->ts.length=2:=by rintro ts Q ⟨_,e,_⟩;subst e;rfl
def Z26:WS :=
 (sIf (tOrT (tNotT (tVal (wIsi .int (wVar 3)))) (tVal (wIsi .bool (wVar 3)))) (sRet (wC (.bl false))) sNext)
def Z1i:WS :=
 (sSeq (sIf (tOrT (tNotT (tVal (wIsi .tuple (wVar 2)))) (tOrT (tNotT (tVal (wIsi .tuple (w2 rIxTT (wVar 2) (wC (.int 0)))))) (tNotT (tVal (wIsi .tuple (w2 rIxTT (wVar 2) (wC (.int 1)))))))) (sRet (wC (.bl false))) sNext)
  (sFor (iSeq (w2 rAddAT (w2 rIxTT (wVar 2) (wC (.int 0))) (w2 rIxTT (wVar 2) (wC (.int 1))))) (gN 3) Z26))
def Z2h:WS :=
 (sSeq (sIf (tOrT (tNotT (tVal (wIsi .list (wVar 0)))) (tCmpT cNeT (wVar 0) (wVar 1))) (sRet (wC (.bl false))) sNext)
  (sSeq (sFor (iSeq (wVar 0)) (gN 2) Z1i)
  (sRet (wC (.bl true)))))
theorem alike_b1{D:DT}{p:P2}{s0 s1 s3:Slot}(h:∀s3,D.nx [s0,s1,.val (iQ p),s3]):Z1i D [s0,s1,.val (iQ p),s3]:=by
 obtain⟨a,b,c,d,e⟩:∃a b c d:Int,iQ p=.tup [.tup [.int a,.int b],.tup [.int c,.int d]]:=⟨_,_,_,_,rfl⟩
 rw[e]at h ⊢
 unfold Z1i Z26
 walk_at "go"
 exact h _
theorem Z31:∀ts Q,Z0N ts Q->Z2h {nx:=fun _=>Q .non,rt:=Q} (startT 4 ts):=by
 rintro _ Q ⟨us,rfl,F,h⟩
 have ok:=four_ok F F
 have es:=four_self F
 unfold Z2h
 obtain⟨W0,hW0⟩:∃W,W=Z1i:=⟨_,rfl⟩
 rw[← hW0]
 walk_at "tw"
 refine⟨(fun z=>by cases z),fun _=>⟨ok,(fun z=>by rw[es]at z;cases z),fun _=>?_⟩⟩
 rw[hW0]
 rcases F with rfl|⟨b,rfl⟩
 ·simp only[forT]
  exact h
 ·simp only[List.map,forT]
  refine alike_b1 fun s3=>?_
  refine alike_b1 fun s3=>?_
  refine alike_b1 fun s3=>?_
  refine alike_b1 fun s3=>?_
  exact h
theorem cut_to{α:Type}(f:α->T)(l:List α)(k:Nat):cutT (l.map f) none (some (k:Int))=(l.take k).map f:=by
 unfold cutT
 rw[HT.sIx_none,HT.sIx_nat,List.length_map,List.drop_zero,Nat.sub_zero,← List.map_take]
 congr 1
 rcases Nat.le_total k l.length with z|z
 ·rw[Nat.min_eq_left z]
 ·rw[Nat.min_eq_right z,List.take_of_length_le (Nat.le_refl _),List.take_of_length_le z]
abbrev pr(x y:Int):T:=.tup [fr x 12,fr y 12]
theorem mx_comm(a b:Int):mxI a b=mxI b a:=by simp only[mxI];split<;>split<;>omega
theorem mn_comm(a b:Int):mnI a b=mnI b a:=by simp only[mnI];split<;>split<;>omega
theorem inter_comm(b c:Int×Int×Int×Int):interT b c=interT c b:=by
 unfold interT
 rw[mx_comm b.1 c.1,mn_comm b.2.1 c.2.1,mx_comm b.2.2.1 c.2.2.1,mn_comm b.2.2.2 c.2.2.2]
theorem inter_self{b:Int×Int×Int×Int}(B:BOk b):interT b b=bxT b:=by
 have e:∀a:Int,mxI a a=a:=fun a=>by simp only[mxI];split<;>rfl
 have e':∀a:Int,mnI a a=a:=fun a=>by simp only[mnI];split<;>rfl
 unfold interT
 rw[e,e',e,e',if_pos ⟨B.x,B.y⟩]
theorem inter_four(b c:Int×Int×Int×Int):Four (interT b c):=by
 unfold interT
 split
 ·exact .inr ⟨_,rfl⟩
 ·exact .inl rfl
theorem two_ok{us vs:List T}(h:Four us)(h':Four vs):EqOk (.lst [.lst us,.lst vs]) (.lst [.lst us,.lst vs])/\eqT (.lst [.lst us,.lst vs]) (.lst [.lst us,.lst vs])=true:=by
 have pl:plain (.lst [.lst us,.lst vs])=true/\dep (.lst [.lst us,.lst vs])<=60:=by
  rcases h with rfl|⟨b,rfl⟩<;>rcases h' with rfl|⟨c,rfl⟩<;>exact⟨by simp[plain,fr,pd,pds,PyData.canLay0,PyData.canLayAll0],by simp[dep,fr,pd,pds,PyData.depth,PyData.depthAll]⟩
 exact⟨⟨pl.1,pl.1,by omega⟩,eqT_self _ pl.1⟩
theorem four_len{us:List T}(h:Four us):us.length < 900:=by
 rcases h with rfl|⟨b,rfl⟩<;>simp
def Z1E:WS :=
 (sSeq (sSet 3 (wCall Z0v (aCons (w2 rIxTT (w2 rIxTT (wVar 2) (wC (.int 0))) (wC (.int 0))) (aCons (w2 rIxTT (w2 rIxTT (wVar 2) (wC (.int 0))) (wC (.int 1))) aNil))))
  (sSeq (sSet 4 (wCall Z0v (aCons (w2 rIxTT (w2 rIxTT (wVar 2) (wC (.int 1))) (wC (.int 0))) (aCons (w2 rIxTT (w2 rIxTT (wVar 2) (wC (.int 1))) (wC (.int 1))) aNil))))
  (sSeq (sSet 5 (wCall Z0v (aCons (wCall Z1f (aCons (w2 rIxTT (w2 rIxTT (wVar 2) (wC (.int 0))) (wC (.int 0))) (aCons (w2 rIxTT (w2 rIxTT (wVar 2) (wC (.int 1))) (wC (.int 0))) aNil))) (aCons (wCall Z1f (aCons (w2 rIxTT (w2 rIxTT (wVar 2) (wC (.int 0))) (wC (.int 1))) (aCons (w2 rIxTT (w2 rIxTT (wVar 2) (wC (.int 1))) (wC (.int 1))) aNil))) aNil))))
  (sSeq (sSet 6 (wLst (aCons (wCB rListT (aCons (wVar 3) aNil)) (aCons (wCB rListT (aCons (wVar 4) aNil)) aNil))))
  (sSeq (sOwnF 7 Z02 (aCons (w2 rIxTT (wVar 6) (wC (.int 0))) (aCons (w2 rIxTT (wVar 6) (wC (.int 1))) aNil)))
  (sSeq (sIf (tFz 7 (tOrT (tNotT (tVal (wCall Z0N (aCons (wVar 7) (aCons (wVar 5) aNil))))) (tOrT (tCmpT cNeT (wVar 6) (wLst (aCons (wVar 3) (aCons (wVar 4) aNil)))) (tNotT (tVal (wCall Z0N (aCons (wCall (frO Z02) (aCons (wVar 4) (aCons (wVar 3) aNil))) (aCons (wVar 5) aNil)))))))) (sRet (wC (.bl false))) sNext)
  (sSeq (sApp 7 (wTup (aCons (wTup (aCons (wC (.int 0)) (aCons (wC (.int 1)) aNil))) (aCons (wTup (aCons (wC (.int 0)) (aCons (wC (.int 1)) aNil))) aNil))))
  (sSeq (sIf (tCmpT cNeT (wVar 6) (wLst (aCons (wVar 3) (aCons (wVar 4) aNil)))) (sRet (wC (.bl false))) sNext)
  (sSeq (sIf (tOrT (tCmpT cNeT (wCall (frO Z02) (aCons (wVar 3) (aCons (wVar 4) aNil))) (wVar 5)) (tNotT (tVal (wCall Z0N (aCons (wCall (frO Z02) (aCons (wVar 3) (aCons (wCB rListT (aCons (wVar 3) aNil)) aNil))) (aCons (wVar 3) aNil)))))) (sRet (wC (.bl false))) sNext)
  (sIf (tOrT (tCmpT cNeT (wCall (frO Z02) (aCons (wVar 3) (aCons (wLst aNil) aNil))) (wLst aNil)) (tCmpT cNeT (wCall (frO Z02) (aCons (wLst aNil) (aCons (wVar 4) aNil))) (wLst aNil))) (sRet (wC (.bl false))) sNext))))))))))
def Z18:WS :=
 (sSeq (sBox 2 8 (aCons (wCall Z15 (aCons (wVar 1) (aCons (wC (.int 0)) aNil))) (aCons (wCall Z15 (aCons (wVar 1) (aCons (wC (.int 4)) aNil))) aNil)) (aCons (wCall Z15 (aCons (wVar 1) (aCons (wC (.int 8)) aNil))) (aCons (wCall Z15 (aCons (wVar 1) (aCons (wC (.int 12)) aNil))) aNil)) (tCmpT cEqT (wCall Z0K (aCons (wVar 1) (aCons (wC (.int 16)) (aCons (wC (.int 5)) aNil)))) (wC (.int 1))) (w2 rIxTT (w2 rIxTT (w2 rIxTT (wVar 2) (wC (.int 0))) (wC (.int 0))) (wC (.int 1))) (wTup (aCons (wVar 8) (aCons (wCall Z11 (aCons (wVar 8) (aCons (wTup (aCons (wC (.int 1)) (aCons (wC (.int 2)) aNil))) aNil))) aNil))))
  Z1E)
def Z2X:WS :=
 (sSeq (sFor (iSeq (w2 rCatLT (wLst (aCons (wC (.int 4)) aNil)) (wSl (wVar 0) wo0 (wo (wC (.int 40)))))) (gN 1) Z18)
  (sRet (wCmp cEqT (wCall (frO Z02) (aCons (wLst aNil) (aCons (wLst aNil) aNil))) (wLst aNil))))
theorem law_k0{D:DT}{a b c d a' b' c' d' k:Int}{t0:T}{s3 s4 s5 s6 s7 s8:Slot}(B:BOk (a,b,c,d))(C:BOk (a',b',c',d'))(h:∀s2 s3 s4 s5 s6 s7 s8,D.nx [.val t0,.val (.int k),s2,s3,s4,s5,s6,s7,s8]) :
  Z1E D [.val t0,.val (.int k),.val (.lst [.lst [pr a b,pr c d],.lst [pr a' b',pr c' d']]),s3,s4,s5,s6,s7,s8]:=by
 have l:∀{x:Int},-1000 < x->x < 1000->Lim 3 x:=fun h1 h2=>Lim.of (by show -1000 < _;omega) (by show _ < 1000;omega)
 obtain⟨hx,hy,b1,b2,b3,b4⟩:=id B
 obtain⟨gx,gy,e1,e2,e3,e4⟩:=id C
 simp only at hx hy b1 b2 b3 b4 gx gy e1 e2 e3 e4
 have l1:Lim 3 a:=l (by omega) (by omega)
 have l2:Lim 3 b:=l (by omega) (by omega)
 have l3:Lim 3 c:=l (by omega) (by omega)
 have l4:Lim 3 d:=l (by omega) (by omega)
 have m1:Lim 3 a':=l (by omega) (by omega)
 have m2:Lim 3 b':=l (by omega) (by omega)
 have m3:Lim 3 c':=l (by omega) (by omega)
 have m4:Lim 3 d':=l (by omega) (by omega)
 have mx:∀{x y:Int},Lim 3 x->Lim 3 y->Lim 3 (mxI x y):=fun h1 h2=>by simp only[mxI];split<;>assumption
 have mn:∀{x y:Int},Lim 3 x->Lim 3 y->Lim 3 (mnI x y):=fun h1 h2=>by simp only[mnI];split<;>assumption
 obtain⟨SC,hSC⟩:∃S,S=Z0v:=⟨_,rfl⟩
 obtain⟨SM,hSM⟩:∃S,S=Z1f:=⟨_,rfl⟩
 obtain⟨SA,hSA⟩:∃S,S=Z0N:=⟨_,rfl⟩
 obtain⟨SF,hSF⟩:∃S,S=frO Z02:=⟨_,rfl⟩
 obtain⟨SB,hSB⟩:∃S,S=Z02:=⟨_,rfl⟩
 have c1:∀{Q:T->Prop},Q (.lst (bxT (a,b,c,d)))->SC [pr a b,pr c d] Q:=fun q=>by rw[hSC];exact⟨a,b,c,d,rfl,⟨l1,l2,l3,l4⟩,by rw[if_pos ⟨hx,hy⟩];exact q⟩
 have c2:∀{Q:T->Prop},Q (.lst (bxT (a',b',c',d')))->SC [pr a' b',pr c' d'] Q:=fun q=>by rw[hSC];exact⟨a',b',c',d',rfl,⟨m1,m2,m3,m4⟩,by rw[if_pos ⟨gx,gy⟩];exact q⟩
 have c3:∀{Q:T->Prop},Q (pr (mxI a a') (mnI b b'))->SM [pr a b,pr a' b'] Q:=fun q=>by rw[hSM];exact⟨a,b,a',b',rfl,⟨l1,l2,m1,m2⟩,q⟩
 have c4:∀{Q:T->Prop},Q (pr (mxI c c') (mnI d d'))->SM [pr c d,pr c' d'] Q:=fun q=>by rw[hSM];exact⟨c,d,c',d',rfl,⟨l3,l4,m3,m4⟩,q⟩
 have c5:∀{Q:T->Prop},Q (.lst (interT (a,b,c,d) (a',b',c',d')))->SC [pr (mxI a a') (mnI b b'),pr (mxI c c') (mnI d d')] Q:=fun q=>by rw[hSC];exact⟨_,_,_,_,rfl,⟨mx l1 m1,mn l2 m2,mx l3 m3,mn l4 m4⟩,q⟩
 have f1:Four (bxT (a,b,c,d)):=.inr ⟨_,rfl⟩
 have f2:Four (bxT (a',b',c',d')):=.inr ⟨_,rfl⟩
 have f3:=inter_four (a,b,c,d) (a',b',c',d')
 have d1:∀{Q:List T->Prop},Q (interT (a,b,c,d) (a',b',c',d'))->SB [.lst (bxT (a,b,c,d)),.lst (bxT (a',b',c',d'))] Q:=fun q=>by rw[hSB];exact .inr (.inr ⟨_,_,rfl,B,C,q⟩)
 have d1':∀{Q:T->Prop},Q (.lst (interT (a,b,c,d) (a',b',c',d')))->SF [.lst (bxT (a,b,c,d)),.lst (bxT (a',b',c',d'))] Q:=fun q=>by rw[hSF];exact .inr (.inr ⟨_,_,rfl,B,C,q⟩)
 have d2:∀{Q:T->Prop},Q (.lst (interT (a,b,c,d) (a',b',c',d')))->SF [.lst (bxT (a',b',c',d')),.lst (bxT (a,b,c,d))] Q:=fun q=>by rw[hSF];exact .inr (.inr ⟨_,_,rfl,C,B,by rw[inter_comm];exact q⟩)
 have d3:∀{Q:T->Prop},Q (.lst (bxT (a,b,c,d)))->SF [.lst (bxT (a,b,c,d)),.lst (bxT (a,b,c,d))] Q:=fun q=>by rw[hSF];exact .inr (.inr ⟨_,_,rfl,B,B,by rw[inter_self B];exact q⟩)
 have d4:∀{t:T}{Q:T->Prop},Q (.lst [])->SF [t,.lst []] Q:=fun q=>by rw[hSF];exact .inl ⟨_,rfl,q⟩
 have d5:∀{Q:T->Prop},Q (.lst [])->SF [.lst [],.lst (bxT (a',b',c',d'))] Q:=fun q=>by rw[hSF];exact .inr (.inl ⟨_,rfl,C,q⟩)
 have al:∀{us:List T}{Q:T->Prop},Four us->Q (.bl true)->SA [.lst us,.lst us] Q:=fun f q=>by rw[hSA];exact⟨_,rfl,f,q⟩
 generalize bxT (a,b,c,d)=us at *
 generalize bxT (a',b',c',d')=vs at *
 generalize interT (a,b,c,d) (a',b',c',d')=ws at *
 obtain⟨o1,q1⟩:=two_ok f1 f2
 have o2:=four_ok f3 f3
 have q2:=four_self f3
 have o3:=four_ok (.inl rfl:Four []) (.inl rfl)
 have q3:=four_self (.inl rfl:Four [])
 have ll:=four_len f3
 unfold Z1E
 rw[← hSC,← hSM,← hSA,← hSF,← hSB]
 walk_at "go"
 refine c1 ?_
 walk_at "go"
 refine c2 ?_
 walk_at "go"
 refine c3 ?_
 walk_at "go"
 refine c4 ?_
 walk_at "go"
 refine c5 ?_
 walk_at "go"
 refine d1 ?_
 walk_at "go"
 refine al f3 ?_
 walk_at "go"
 rw[q1]
 refine⟨(fun z=>by cases z),fun _=>?_⟩
 walk_at "go"
 refine d2 ?_
 walk_at "go"
 refine al f3 ?_
 walk_at "go"
 refine⟨by omega,?_⟩
 walk_at "go"
 rw[q1]
 refine⟨(fun z=>by cases z),fun _=>?_⟩
 walk_at "go"
 refine d1' ?_
 walk_at "go"
 rw[q2]
 refine⟨(fun z=>by cases z),fun _=>?_⟩
 walk_at "go"
 refine d3 ?_
 walk_at "go"
 refine al f1 ?_
 walk_at "go"
 refine d4 ?_
 walk_at "go"
 refine d5 ?_
 walk_at "go"
 exact h _ _ _ _ _ _ _
theorem law_b0{D:DT}{k:Int}{t0:T}{s2 s3 s4 s5 s6 s7 s8:Slot}(h:∀s2 s3 s4 s5 s6 s7 s8,D.nx [.val t0,.val (.int k),s2,s3,s4,s5,s6,s7,s8]):Z18 D [.val t0,.val (.int k),s2,s3,s4,s5,s6,s7,s8]:=by
 obtain⟨S,hS⟩:∃S,S=Z15:=⟨_,rfl⟩
 obtain⟨SA,hSA⟩:∃S,S=Z11:=⟨_,rfl⟩
 have cb:∀{i:Int}{Q:T->Prop},0<=i->i<=100->(∀x0 x1:Int,x0 < x1 -> -100 < x0->x1 < 200->Q (pr x0 x1))->S [.int k,.int i] Q:=fun h1 h2 q=>by rw[hS];exact⟨_,_,rfl,h1,h2,q⟩
 have ca:∀{x:Int}{Q:T->Prop},Lim 3 x->Q (fr (x + 6) 12)->SA [fr x 12,.tup [.int 1,.int 2]] Q:=fun {x Q} lx q=>by
  rw[hSA,show (.tup [.int 1,.int 2]:T)=fr 1 2 from fr_of (by decide) ⟨by decide,by decide,rfl⟩]
  refine⟨x,12,1,2,rfl,⟨by decide,by decide,lx.mono (by decide),l12.mono (by decide),Lim.of (by decide) (by decide),Lim.of (by decide) (by decide)⟩,?_⟩
  rw[fr_eq (n':=x + 6) (m':=12) (by decide) (by decide) (by omega)]
  exact q
 unfold Z18
 obtain⟨K0,hK0⟩:∃W,W=Z1E:=⟨_,rfl⟩
 rw[← hK0,← hS,← hSA]
 walk_at "go"
 refine cb (by decide) (by decide) fun a b p1 p2 p3=>?_
 walk_at "go"
 refine cb (by decide) (by decide) fun c d p4 p5 p6=>?_
 walk_at "go"
 refine cb (by decide) (by decide) fun a' b' p7 p8 p9=>?_
 walk_at "go"
 refine cb (by decide) (by decide) fun c' d' p10 p11 p12=>?_
 have k1:=fun (x y:Int) (p1':x < y) (p2':-100 < x) (p3':y < 300) (s8:Slot)=>law_k0 (D:=D) (k:=k) (t0:=t0) (s3:=s3) (s4:=s4) (s5:=s5) (s6:=s6) (s7:=s7) (s8:=s8) (a:=a) (b:=b) (c:=c) (d:=d) (a':=x) (b':=y) (c':=c') (d':=d') ⟨p1,p4,by simp only;omega,by simp only;omega,by simp only;omega,by simp only;omega⟩ ⟨p1',p10,by simp only;omega,by simp only;omega,by simp only;omega,by simp only;omega⟩ h
 rw[← hK0]at k1
 walk_at "go"
 refine⟨k,16,5,rfl,by decide,by decide,by decide,by decide,fun r r0 r1=>?_⟩
 walk_at "go"
 refine⟨fun _=>?_,fun _=>?_⟩
 ·walk_at "go"
  refine ca (small3 (by omega) (by omega)) ?_
  walk_at "go"
  exact k1 _ _ (by omega) (by omega) (by omega) _
 ·walk_at "go"
  exact k1 a' b' p7 p8 (by omega) _
theorem law_loop{D:DT}{t0:T}(h:∀s1 s2 s3 s4 s5 s6 s7 s8,D.nx [.val t0,s1,s2,s3,s4,s5,s6,s7,s8]):∀(l:List Int)(s1 s2 s3 s4 s5 s6 s7 s8:Slot),forT (gN 1) Z18 (l.map T.int) D [.val t0,s1,s2,s3,s4,s5,s6,s7,s8]
 | [],s1,s2,s3,s4,s5,s6,s7,s8=>by
  simp only[List.map,forT]
  exact h _ _ _ _ _ _ _ _
 | c::l,s1,s2,s3,s4,s5,s6,s7,s8=>by
  have ih:=law_loop (D:=D) h l
  simp only[List.map_cons,forT]
  generalize forT (gN 1) Z18 (l.map T.int) D=F at ih ⊢
  exact law_b0 (D:={D with nx:=F,ct:=F,bk:=D.nx}) fun _ _ _ _ _ _ _=>ih _ _ _ _ _ _ _ _
theorem Z3f:∀ts Q,lawSp ts Q->Z2X {nx:=fun _=>Q .non,rt:=Q} (startT 9 ts):=by
 rintro _ Q ⟨ns,rfl,hl,h⟩
 obtain⟨SF,hSF⟩:∃S,S=frO Z02:=⟨_,rfl⟩
 have d4:∀{t:T}{Q:T->Prop},Q (.lst [])->SF [t,.lst []] Q:=fun q=>by rw[hSF];exact .inl ⟨_,rfl,q⟩
 have o3:=four_ok (.inl rfl:Four []) (.inl rfl)
 have q3:=four_self (.inl rfl:Four [])
 unfold Z2X
 obtain⟨W0,hW0⟩:∃W,W=Z18:=⟨_,rfl⟩
 rw[← hW0,← hSF]
 walk_at "go"
 rw[show (40:Int)=((40:Nat):Int) from rfl,cut_to]
 refine⟨by rw[List.length_map,List.length_take];simp;omega,?_⟩
 rw[hW0]
 refine law_loop (D:={nx:=_,rt:=Q}) (fun s1 s2 s3 s4 s5 s6 s7 s8=>?_) (4::ns.take 40) _ _ _ _ _ _ _ _
 walk_at "go"
 refine d4 ?_
 walk_at "go"
 exact h
local macro_rules|`(tactic| walk_at "v")=>`(tactic| exact⟨by first|exact Or.inl rfl|exact Or.inr (Or.inl rfl)|exact Or.inr (Or.inr rfl),by decide,by decide⟩)
local macro_rules|`(tactic| walk_at "s")=>`(tactic| exact⟨rfl,rfl,rfl,by decide +kernel,rfl,by decide +kernel,by decide +kernel⟩)
local macro_rules|`(tactic| walk_at "f")=>`(tactic| first|exact .inl rfl|exact .inr rfl|assumption)
theorem jV{X:Cx}(i:Nat){x:Str}{pos:Pos}(hN:X.N[i]?=some x) (h:Vis X.env.scope x/\(x==("__debug__" : Str))=false/\(x==("__classdict__" : Str))=false):JE X (.Name x pos) (wVar i):=jv i hN h.1 h.2.1 h.2.2
def top(i:Nat):Stmt:=PySem.Challenge.pw_dialyard_k72_boxes_together.main.body.getD i (.Pass ⟨0,0,0,0⟩)
section
variable {P:Program} {w:World} {K:PySem.W.Frag} {mg:Str->Option Value} {base:Heap}
abbrev Z1o:Stmt:=top 23
theorem Z1p:FnScope ["_law_cell", "_law_k", "_law_many", "_law_number", "_law_left", "_law_j"] ["_law_cell", "_law_k", "_law_many"] (defScope Z1o):=by walk_at "s"
theorem Z3a{f:Addr}{fd:FuncData} (F:Fun K "_law_draw" "_law_draw" Z1o f fd) (m:mg "_law_draw" = some (.ref f)) (z_range:mg "range" = none):Cal P w K mg base 1 "_law_draw" ["_law_cell", "_law_k", "_law_many"] Z0K :=
 .mk F m (F.binds fun _ _ _ _ _ _ us hl=>args3 hl fun _ _ _=>rfl) (fnT (W:=Z2z) F Z1p Z2Y (fun cdv A outer s H E hr =>
  (@jsc _ _ _ _ _ (@jsif _ _ _ _ _ _ _ _ (@tcmp _ _ _ _ _ _ _ _ c_ge (@jV _ 0 _ _ rfl (by walk_at "v")) (@jop _ _ _ _ _ _ _ _ b_pow (@ji _ _ _ _) (@ji _ _ _ _)) (nomark _)) (@jsc _ _ _ _ _ (@jset _ _ _ _ (4) _ _ Z1p.nd rfl (Or.inl rfl) (@jV _ 0 _ _ rfl (by walk_at "v")) (by rfl) (by walk_at "f")) (@jsc _ _ _ _ _ (@jfor _ _ _ _ _ _ _ _ PassesOwn.never rfl (@jiRange1 _ _ _ _ _ _ rfl z_range (@ja _ _ _ _ _ (@jV _ 1 _ _ rfl (by walk_at "v")) (@ja0 _) (star1 rfl)) (by rfl)) (@jg _ _ (5) _ Z1p.nd rfl (Or.inl rfl) (by walk_at "f")) (@js1 _ _ _ (@jset _ _ _ _ (4) _ _ Z1p.nd rfl (Or.inl rfl) (@jop _ _ _ _ _ _ _ _ b_div (@jV _ 4 _ _ rfl (by walk_at "v")) (@jop _ _ _ _ _ _ _ _ b_pow (@ji _ _ _ _) (@ji _ _ _ _))) (by rfl) (by walk_at "f"))) (fun _=>rfl)) (@js1 _ _ _ (@jsif _ _ _ _ _ _ _ _ (@tcmp _ _ _ _ _ _ _ _ c_gt (@jV _ 4 _ _ rfl (by walk_at "v")) (@ji _ _ _ _) (nomark _)) (@js1 _ _ _ (@jret _ _ _ _ (@jop _ _ _ _ _ _ _ _ b_mod (@jop _ _ _ _ _ _ _ _ b_mod (@jV _ 4 _ _ rfl (by walk_at "v")) (@jop _ _ _ _ _ _ _ _ b_pow (@ji _ _ _ _) (@ji _ _ _ _))) (@jV _ 2 _ _ rfl (by walk_at "v"))))) (@js0 _))))) (@js0 _)) (@jsc _ _ _ _ _ (@jset _ _ _ _ (3) _ _ Z1p.nd rfl (Or.inl rfl) (@jop _ _ _ _ _ _ _ _ b_mod (@jop _ _ _ _ _ _ _ _ b_mul (@jop _ _ _ _ _ _ _ _ b_add (@jop _ _ _ _ _ _ _ _ b_add (@jop _ _ _ _ _ _ _ _ b_add (@jop _ _ _ _ _ _ _ _ b_mod (@jV _ 0 _ _ rfl (by walk_at "v")) (@ji _ _ _ _)) (@jop _ _ _ _ _ _ _ _ b_mul (@jop _ _ _ _ _ _ _ _ b_mul (@ji _ _ _ _) (@jV _ 1 _ _ rfl (by walk_at "v"))) (@jV _ 1 _ _ rfl (by walk_at "v")))) (@jop _ _ _ _ _ _ _ _ b_mul (@ji _ _ _ _) (@jV _ 1 _ _ rfl (by walk_at "v")))) (@ji _ _ _ _)) (@ji _ _ _ _)) (@ji _ _ _ _)) (by rfl) (by walk_at "f")) (@jsc _ _ _ _ _ (@jset _ _ _ _ (3) _ _ Z1p.nd rfl (Or.inl rfl) (@jop _ _ _ _ _ _ _ _ b_mod (@jop _ _ _ _ _ _ _ _ b_add (@jop _ _ _ _ _ _ _ _ b_add (@jop _ _ _ _ _ _ _ _ b_mul (@jV _ 3 _ _ rfl (by walk_at "v")) (@jV _ 3 _ _ rfl (by walk_at "v"))) (@jop _ _ _ _ _ _ _ _ b_mul (@ji _ _ _ _) (@jV _ 1 _ _ rfl (by walk_at "v")))) (@ji _ _ _ _)) (@ji _ _ _ _)) (by rfl) (by walk_at "f")) (@js1 _ _ _ (@jret _ _ _ _ (@jop _ _ _ _ _ _ _ _ b_mod (@jop _ _ _ _ _ _ _ _ b_mod (@jop _ _ _ _ _ _ _ _ b_mul (@jV _ 3 _ _ rfl (by walk_at "v")) (@jV _ 3 _ _ rfl (by walk_at "v"))) (@ji _ _ _ _)) (@jV _ 2 _ _ rfl (by walk_at "v"))))))))) Z35)
abbrev Z1F:Stmt:=top 24
theorem Z2c:FnScope ["_law_top", "_law_bottom", "_law_one", "_law_other"] ["_law_top", "_law_bottom"] (defScope Z1F):=by walk_at "s"
theorem Z3g{f:Addr}{fd:FuncData} (F:Fun K "_law_low" "_law_low" Z1F f fd) (m:mg "_law_low" = some (.ref f)) (z_abs:mg "abs" = none):Cal P w K mg base 1 "_law_low" ["_law_top", "_law_bottom"] Z1h :=
 .mk F m (F.binds fun _ _ _ _ _ _ us hl=>args2 hl fun _ _=>rfl) (fnT (W:=Z2S) F Z2c Z36 (fun cdv A outer s H E hr =>
  (@jsc _ _ _ _ _ (@jset _ _ _ _ (2) _ _ Z2c.nd rfl (Or.inl rfl) (@jblt _ _ _ _ _ _ _ _ _ bl_abs rfl z_abs boot_abs (@ja _ _ _ _ _ (@jV _ 0 _ _ rfl (by walk_at "v")) (@ja0 _) (star1 rfl)) (by decide) (by decide) (star1 rfl) (stars rfl)) (by rfl) (by walk_at "f")) (@jsc _ _ _ _ _ (@jset _ _ _ _ (3) _ _ Z2c.nd rfl (Or.inl rfl) (@jV _ 1 _ _ rfl (by walk_at "v")) (by rfl) (by walk_at "f")) (@jsc _ _ _ _ _ (@jwhile _ _ _ _ _ _ PassesOwn.never (@tcmp _ _ _ _ _ _ _ _ (c_ne hr) (@jV _ 3 _ _ rfl (by walk_at "v")) (@ji _ _ _ _) (nomark _)) (@js1 _ _ _ (@jpar _ _ _ _ _ (2) (3) _ _ _ _ _ _ _ _ rfl Z2c.nd rfl rfl (by decide) rfl rfl (@ja _ _ _ _ _ (@jV _ 3 _ _ rfl (by walk_at "v")) (@ja _ _ _ _ _ (@jop _ _ _ _ _ _ _ _ b_mod (@jV _ 2 _ _ rfl (by walk_at "v")) (@jV _ 3 _ _ rfl (by walk_at "v"))) (@ja0 _) (star1 rfl)) (star1 rfl)) rfl (by rfl)))) (@js1 _ _ _ (@jret _ _ _ _ (@jtup _ _ _ _ _ (@ja _ _ _ _ _ (@jop _ _ _ _ _ _ _ _ b_div (@jV _ 0 _ _ rfl (by walk_at "v")) (@jV _ 2 _ _ rfl (by walk_at "v"))) (@ja _ _ _ _ _ (@jop _ _ _ _ _ _ _ _ b_div (@jV _ 1 _ _ rfl (by walk_at "v")) (@jV _ 2 _ _ rfl (by walk_at "v"))) (@ja0 _) (star1 rfl)) (star1 rfl))))))))) Z3c)
abbrev Z1G:Stmt:=top 25
theorem Z3h:FnScope ["_law_one", "_law_other"] ["_law_one", "_law_other"] (defScope Z1G):=by walk_at "s"
theorem Z3i{f:Addr}{fd:FuncData} (F:Fun K "_law_add" "_law_add" Z1G f fd) (m:mg "_law_add" = some (.ref f)) (Z1Q:Cal P w K mg base 1 "_law_low" ["_law_top", "_law_bottom"] Z1h):Cal P w K mg base 2 "_law_add" ["_law_one", "_law_other"] Z11 :=
 .mk F m (F.binds fun _ _ _ _ _ _ us hl=>args2 hl fun _ _=>rfl) (fnT (W:=Z2T) F Z3h Z37 (fun cdv A outer s H E hr =>
  (@js1 _ _ _ (@jret _ _ _ _ (@jcallC _ _ _ _ _ _ _ _ _ _ Z1Q (hr.mono (by omega)) rfl (@ja _ _ _ _ _ (@jop _ _ _ _ _ _ _ _ b_add (@jop _ _ _ _ _ _ _ _ b_mul (@jix _ _ _ _ _ _ (@jV _ 0 _ _ rfl (by walk_at "v")) (@ji _ _ _ _) (fun _ _=>rfl)) (@jix _ _ _ _ _ _ (@jV _ 1 _ _ rfl (by walk_at "v")) (@ji _ _ _ _) (fun _ _=>rfl))) (@jop _ _ _ _ _ _ _ _ b_mul (@jix _ _ _ _ _ _ (@jV _ 1 _ _ rfl (by walk_at "v")) (@ji _ _ _ _) (fun _ _=>rfl)) (@jix _ _ _ _ _ _ (@jV _ 0 _ _ rfl (by walk_at "v")) (@ji _ _ _ _) (fun _ _=>rfl)))) (@ja _ _ _ _ _ (@jop _ _ _ _ _ _ _ _ b_mul (@jix _ _ _ _ _ _ (@jV _ 0 _ _ rfl (by walk_at "v")) (@ji _ _ _ _) (fun _ _=>rfl)) (@jix _ _ _ _ _ _ (@jV _ 1 _ _ rfl (by walk_at "v")) (@ji _ _ _ _) (fun _ _=>rfl))) (@ja0 _) (star1 rfl)) (star1 rfl)) (by decide) (star1 rfl) (stars rfl))))) Z3d)
abbrev Z1H:Stmt:=top 29
theorem Z2C:FnScope ["_law_cell", "_law_k", "_law_low_here", "_law_wide"] ["_law_cell", "_law_k"] (defScope Z1H):=by walk_at "s"
theorem Z3j{f:Addr}{fd:FuncData} (F:Fun K "_law_box" "_law_box" Z1H f fd) (m:mg "_law_box" = some (.ref f)) (Z16:Cal P w K mg base 1 "_law_draw" ["_law_cell", "_law_k", "_law_many"] Z0K) (Z1Q:Cal P w K mg base 1 "_law_low" ["_law_top", "_law_bottom"] Z1h) (Z22:Cal P w K mg base 2 "_law_add" ["_law_one", "_law_other"] Z11):Cal P w K mg base 3 "_law_box" ["_law_cell", "_law_k"] Z15 :=
 .mk F m (F.binds fun _ _ _ _ _ _ us hl=>args2 hl fun _ _=>rfl) (fnT (W:=Z2V) F Z2C Z38 (fun cdv A outer s H E hr =>
  (@jsc _ _ _ _ _ (@jset _ _ _ _ (2) _ _ Z2C.nd rfl (Or.inl rfl) (@jcallC _ _ _ _ _ _ _ _ _ _ Z1Q (hr.mono (by omega)) rfl (@ja _ _ _ _ _ (@jop _ _ _ _ _ _ _ _ b_sub (@jcallC _ _ _ _ _ _ _ _ _ _ Z16 (hr.mono (by omega)) rfl (@ja _ _ _ _ _ (@jV _ 0 _ _ rfl (by walk_at "v")) (@ja _ _ _ _ _ (@jV _ 1 _ _ rfl (by walk_at "v")) (@ja _ _ _ _ _ (@ji _ _ _ _) (@ja0 _) (star1 rfl)) (star1 rfl)) (star1 rfl)) (by decide) (star1 rfl) (stars rfl)) (@ji _ _ _ _)) (@ja _ _ _ _ _ (@jop _ _ _ _ _ _ _ _ b_add (@ji _ _ _ _) (@jcallC _ _ _ _ _ _ _ _ _ _ Z16 (hr.mono (by omega)) rfl (@ja _ _ _ _ _ (@jV _ 0 _ _ rfl (by walk_at "v")) (@ja _ _ _ _ _ (@jop _ _ _ _ _ _ _ _ b_add (@jV _ 1 _ _ rfl (by walk_at "v")) (@ji _ _ _ _)) (@ja _ _ _ _ _ (@ji _ _ _ _) (@ja0 _) (star1 rfl)) (star1 rfl)) (star1 rfl)) (by decide) (star1 rfl) (stars rfl))) (@ja0 _) (star1 rfl)) (star1 rfl)) (by decide) (star1 rfl) (stars rfl)) (by rfl) (by walk_at "f")) (@jsc _ _ _ _ _ (@jset _ _ _ _ (3) _ _ Z2C.nd rfl (Or.inl rfl) (@jcallC _ _ _ _ _ _ _ _ _ _ Z1Q (hr.mono (by omega)) rfl (@ja _ _ _ _ _ (@jop _ _ _ _ _ _ _ _ b_add (@ji _ _ _ _) (@jcallC _ _ _ _ _ _ _ _ _ _ Z16 (hr.mono (by omega)) rfl (@ja _ _ _ _ _ (@jV _ 0 _ _ rfl (by walk_at "v")) (@ja _ _ _ _ _ (@jop _ _ _ _ _ _ _ _ b_add (@jV _ 1 _ _ rfl (by walk_at "v")) (@ji _ _ _ _)) (@ja _ _ _ _ _ (@ji _ _ _ _) (@ja0 _) (star1 rfl)) (star1 rfl)) (star1 rfl)) (by decide) (star1 rfl) (stars rfl))) (@ja _ _ _ _ _ (@jop _ _ _ _ _ _ _ _ b_add (@ji _ _ _ _) (@jcallC _ _ _ _ _ _ _ _ _ _ Z16 (hr.mono (by omega)) rfl (@ja _ _ _ _ _ (@jV _ 0 _ _ rfl (by walk_at "v")) (@ja _ _ _ _ _ (@jop _ _ _ _ _ _ _ _ b_add (@jV _ 1 _ _ rfl (by walk_at "v")) (@ji _ _ _ _)) (@ja _ _ _ _ _ (@ji _ _ _ _) (@ja0 _) (star1 rfl)) (star1 rfl)) (star1 rfl)) (by decide) (star1 rfl) (stars rfl))) (@ja0 _) (star1 rfl)) (star1 rfl)) (by decide) (star1 rfl) (stars rfl)) (by rfl) (by walk_at "f")) (@js1 _ _ _ (@jret _ _ _ _ (@jtup _ _ _ _ _ (@ja _ _ _ _ _ (@jV _ 2 _ _ rfl (by walk_at "v")) (@ja _ _ _ _ _ (@jcallC _ _ _ _ _ _ _ _ _ _ Z22 (hr.mono (by omega)) rfl (@ja _ _ _ _ _ (@jV _ 2 _ _ rfl (by walk_at "v")) (@ja _ _ _ _ _ (@jV _ 3 _ _ rfl (by walk_at "v")) (@ja0 _) (star1 rfl)) (star1 rfl)) (by decide) (star1 rfl) (stars rfl)) (@ja0 _) (star1 rfl)) (star1 rfl)))))))) Z3e)
abbrev Z19:Stmt:=top 28
theorem Z32:FnScope ["_law_one", "_law_other"] ["_law_one", "_law_other"] (defScope Z19):=by walk_at "s"
theorem Z33{f:Addr}{fd:FuncData} (F:Fun K "_law_under" "_law_under" Z19 f fd) (m:mg "_law_under" = some (.ref f)):Cal P w K mg base 1 "_law_under" ["_law_one", "_law_other"] Z0r :=
 .mk F m (F.binds fun _ _ _ _ _ _ us hl=>args2 hl fun _ _=>rfl) (fnT (W:=Z2M) F Z32 Z2U (fun cdv A outer s H E hr =>
  (@js1 _ _ _ (@jret _ _ _ _ (@jcmp _ _ _ _ _ _ _ _ c_lt (@jop _ _ _ _ _ _ _ _ b_mul (@jix _ _ _ _ _ _ (@jV _ 0 _ _ rfl (by walk_at "v")) (@ji _ _ _ _) (fun _ _=>rfl)) (@jix _ _ _ _ _ _ (@jV _ 1 _ _ rfl (by walk_at "v")) (@ji _ _ _ _) (fun _ _=>rfl))) (@jop _ _ _ _ _ _ _ _ b_mul (@jix _ _ _ _ _ _ (@jV _ 1 _ _ rfl (by walk_at "v")) (@ji _ _ _ _) (fun _ _=>rfl)) (@jix _ _ _ _ _ _ (@jV _ 0 _ _ rfl (by walk_at "v")) (@ji _ _ _ _) (fun _ _=>rfl))) (nomark _))))) Z2Z)
abbrev Z0O:Stmt:=top 30
theorem Z2O:FnScope ["_law_wide", "_law_high"] ["_law_wide", "_law_high"] (defScope Z0O):=by walk_at "s"
theorem Z2P{f:Addr}{fd:FuncData} (F:Fun K "_law_corners" "_law_corners" Z0O f fd) (m:mg "_law_corners" = some (.ref f)) (Z12:Cal P w K mg base 1 "_law_under" ["_law_one", "_law_other"] Z0r):Cal P w K mg base 2 "_law_corners" ["_law_wide", "_law_high"] Z0v :=
 .mk F m (F.binds fun _ _ _ _ _ _ us hl=>args2 hl fun _ _=>rfl) (fnT (W:=Z1P) F Z2O Z2A (fun cdv A outer s H E hr =>
  (@jsc _ _ _ _ _ (@jsif _ _ _ _ _ _ _ _ (@jw _ _ _ (@tor _ _ _ _ _ _ _ (@tnot _ _ _ _ (@tval _ _ _ (@jcallC _ _ _ _ _ _ _ _ _ _ Z12 (hr.mono (by omega)) rfl (@ja _ _ _ _ _ (@jix _ _ _ _ _ _ (@jV _ 0 _ _ rfl (by walk_at "v")) (@ji _ _ _ _) (fun _ _=>rfl)) (@ja _ _ _ _ _ (@jix _ _ _ _ _ _ (@jV _ 0 _ _ rfl (by walk_at "v")) (@ji _ _ _ _) (fun _ _=>rfl)) (@ja0 _) (star1 rfl)) (star1 rfl)) (by decide) (star1 rfl) (stars rfl)) (fun _=>rfl))) (@tor1 _ _ _ _ (@tnot _ _ _ _ (@tval _ _ _ (@jcallC _ _ _ _ _ _ _ _ _ _ Z12 (hr.mono (by omega)) rfl (@ja _ _ _ _ _ (@jix _ _ _ _ _ _ (@jV _ 1 _ _ rfl (by walk_at "v")) (@ji _ _ _ _) (fun _ _=>rfl)) (@ja _ _ _ _ _ (@jix _ _ _ _ _ _ (@jV _ 1 _ _ rfl (by walk_at "v")) (@ji _ _ _ _) (fun _ _=>rfl)) (@ja0 _) (star1 rfl)) (star1 rfl)) (by decide) (star1 rfl) (stars rfl)) (fun _=>rfl)))))) (@js1 _ _ _ (@jret _ _ _ _ (@jlst _ _ _ _ (@ja0 _)))) (@js0 _)) (@js1 _ _ _ (@jret _ _ _ _ (@jlst _ _ _ _ (@ja _ _ _ _ _ (@jtup _ _ _ _ _ (@ja _ _ _ _ _ (@jix _ _ _ _ _ _ (@jV _ 0 _ _ rfl (by walk_at "v")) (@ji _ _ _ _) (fun _ _=>rfl)) (@ja _ _ _ _ _ (@jix _ _ _ _ _ _ (@jV _ 1 _ _ rfl (by walk_at "v")) (@ji _ _ _ _) (fun _ _=>rfl)) (@ja0 _) (star1 rfl)) (star1 rfl))) (@ja _ _ _ _ _ (@jtup _ _ _ _ _ (@ja _ _ _ _ _ (@jix _ _ _ _ _ _ (@jV _ 0 _ _ rfl (by walk_at "v")) (@ji _ _ _ _) (fun _ _=>rfl)) (@ja _ _ _ _ _ (@jix _ _ _ _ _ _ (@jV _ 1 _ _ rfl (by walk_at "v")) (@ji _ _ _ _) (fun _ _=>rfl)) (@ja0 _) (star1 rfl)) (star1 rfl))) (@ja _ _ _ _ _ (@jtup _ _ _ _ _ (@ja _ _ _ _ _ (@jix _ _ _ _ _ _ (@jV _ 0 _ _ rfl (by walk_at "v")) (@ji _ _ _ _) (fun _ _=>rfl)) (@ja _ _ _ _ _ (@jix _ _ _ _ _ _ (@jV _ 1 _ _ rfl (by walk_at "v")) (@ji _ _ _ _) (fun _ _=>rfl)) (@ja0 _) (star1 rfl)) (star1 rfl))) (@ja _ _ _ _ _ (@jtup _ _ _ _ _ (@ja _ _ _ _ _ (@jix _ _ _ _ _ _ (@jV _ 0 _ _ rfl (by walk_at "v")) (@ji _ _ _ _) (fun _ _=>rfl)) (@ja _ _ _ _ _ (@jix _ _ _ _ _ _ (@jV _ 1 _ _ rfl (by walk_at "v")) (@ji _ _ _ _) (fun _ _=>rfl)) (@ja0 _) (star1 rfl)) (star1 rfl))) (@ja0 _) (star1 rfl)) (star1 rfl)) (star1 rfl)) (star1 rfl))))))) Z2N)
abbrev Z1q:Stmt:=top 31
theorem Z2i:FnScope ["_law_one", "_law_other", "_law_low_here"] ["_law_one", "_law_other"] (defScope Z1q):=by walk_at "s"
theorem Z3b{f:Addr}{fd:FuncData} (F:Fun K "_law_both" "_law_both" Z1q f fd) (m:mg "_law_both" = some (.ref f)) (Z12:Cal P w K mg base 1 "_law_under" ["_law_one", "_law_other"] Z0r):Cal P w K mg base 2 "_law_both" ["_law_one", "_law_other"] Z1f :=
 .mk F m (F.binds fun _ _ _ _ _ _ us hl=>args2 hl fun _ _=>rfl) (fnT (W:=Z2B) F Z2i Z30 (fun cdv A outer s H E hr =>
  (@jsc _ _ _ _ _ (@jset _ _ _ _ (2) _ _ Z2i.nd rfl (Or.inl rfl) (@jix _ _ _ _ _ _ (@jV _ 0 _ _ rfl (by walk_at "v")) (@ji _ _ _ _) (fun _ _=>rfl)) (by rfl) (by walk_at "f")) (@jsc _ _ _ _ _ (@jsif _ _ _ _ _ _ _ _ (@tval _ _ _ (@jcallC _ _ _ _ _ _ _ _ _ _ Z12 (hr.mono (by omega)) rfl (@ja _ _ _ _ _ (@jix _ _ _ _ _ _ (@jV _ 0 _ _ rfl (by walk_at "v")) (@ji _ _ _ _) (fun _ _=>rfl)) (@ja _ _ _ _ _ (@jix _ _ _ _ _ _ (@jV _ 1 _ _ rfl (by walk_at "v")) (@ji _ _ _ _) (fun _ _=>rfl)) (@ja0 _) (star1 rfl)) (star1 rfl)) (by decide) (star1 rfl) (stars rfl)) (fun _=>rfl)) (@js1 _ _ _ (@jset _ _ _ _ (2) _ _ Z2i.nd rfl (Or.inl rfl) (@jix _ _ _ _ _ _ (@jV _ 1 _ _ rfl (by walk_at "v")) (@ji _ _ _ _) (fun _ _=>rfl)) (by rfl) (by walk_at "f"))) (@js0 _)) (@jsc _ _ _ _ _ (@jsif _ _ _ _ _ _ _ _ (@tval _ _ _ (@jcallC _ _ _ _ _ _ _ _ _ _ Z12 (hr.mono (by omega)) rfl (@ja _ _ _ _ _ (@jix _ _ _ _ _ _ (@jV _ 0 _ _ rfl (by walk_at "v")) (@ji _ _ _ _) (fun _ _=>rfl)) (@ja _ _ _ _ _ (@jix _ _ _ _ _ _ (@jV _ 1 _ _ rfl (by walk_at "v")) (@ji _ _ _ _) (fun _ _=>rfl)) (@ja0 _) (star1 rfl)) (star1 rfl)) (by decide) (star1 rfl) (stars rfl)) (fun _=>rfl)) (@js1 _ _ _ (@jret _ _ _ _ (@jtup _ _ _ _ _ (@ja _ _ _ _ _ (@jV _ 2 _ _ rfl (by walk_at "v")) (@ja _ _ _ _ _ (@jix _ _ _ _ _ _ (@jV _ 0 _ _ rfl (by walk_at "v")) (@ji _ _ _ _) (fun _ _=>rfl)) (@ja0 _) (star1 rfl)) (star1 rfl))))) (@js0 _)) (@js1 _ _ _ (@jret _ _ _ _ (@jtup _ _ _ _ _ (@ja _ _ _ _ _ (@jV _ 2 _ _ rfl (by walk_at "v")) (@ja _ _ _ _ _ (@jix _ _ _ _ _ _ (@jV _ 1 _ _ rfl (by walk_at "v")) (@ji _ _ _ _) (fun _ _=>rfl)) (@ja0 _) (star1 rfl)) (star1 rfl))))))))) Z39)
abbrev Z0C:Stmt:=top 4
theorem Z2D:FnScope ["thing"] ["thing"] (defScope Z0C):=by walk_at "s"
theorem Z2E{f:Addr}{fd:FuncData} (F:Fun K "is_whole" "is_whole" Z0C f fd) (m:mg "is_whole" = some (.ref f)) (z_isinstance:mg "isinstance" = none) (z_int:mg "int" = none) (z_bool:mg "bool" = none):Cal P w K mg base 1 "is_whole" ["thing"] Z0B :=
 .mk F m (F.binds fun _ _ _ _ _ _ us hl=>args1 hl fun _=>rfl) (fnT (W:=Z1v) F Z2D Z2m (fun cdv A outer s H E hr =>
  (@js1 _ _ _ (@jret _ _ _ _ (@jand _ _ _ _ _ _ _ (@jisi _ _ _ _ .int _ _ _ (@jV _ 0 _ _ rfl (by walk_at "v")) rfl z_isinstance rfl z_int boot_int (by decide) (by decide) (star1 rfl) (star1 rfl) (stars rfl)) (@jone _ _ _ _ _ (@jnot _ _ _ _ (@jisi _ _ _ _ .bool _ _ _ (@jV _ 0 _ _ rfl (by walk_at "v")) rfl z_isinstance rfl z_bool boot_bool (by decide) (by decide) (star1 rfl) (star1 rfl) (stars rfl)))))))) Z2u)
abbrev Z08:Stmt:=top 5
theorem Z0q:FnScope ["one", "other", "rest"] ["one", "other"] (defScope Z08):=by walk_at "s"
theorem Z1K{f:Addr}{fd:FuncData} (F:Fun K "greatest_factor" "greatest_factor" Z08 f fd) (m:mg "greatest_factor" = some (.ref f)) (z_abs:mg "abs" = none):Cal P w K mg base 1 "greatest_factor" ["one", "other"] Z0f :=
 .mk F m (F.binds fun _ _ _ _ _ _ us hl=>args2 hl fun _ _=>rfl) (fnT (W:=Z0L) F Z0q Z1w (fun cdv A outer s H E hr =>
  (@jsc _ _ _ _ _ (@jwhile _ _ _ _ _ _ PassesOwn.never (@tcmp _ _ _ _ _ _ _ _ (c_ne hr) (@jV _ 1 _ _ rfl (by walk_at "v")) (@ji _ _ _ _) (nomark _)) (@jsc _ _ _ _ _ (@jset _ _ _ _ (2) _ _ Z0q.nd rfl (Or.inl rfl) (@jop _ _ _ _ _ _ _ _ b_mod (@jV _ 0 _ _ rfl (by walk_at "v")) (@jV _ 1 _ _ rfl (by walk_at "v"))) (by rfl) (by walk_at "f")) (@jsc _ _ _ _ _ (@jset _ _ _ _ (0) _ _ Z0q.nd rfl (Or.inl rfl) (@jV _ 1 _ _ rfl (by walk_at "v")) (by rfl) (by walk_at "f")) (@js1 _ _ _ (@jset _ _ _ _ (1) _ _ Z0q.nd rfl (Or.inl rfl) (@jV _ 2 _ _ rfl (by walk_at "v")) (by rfl) (by walk_at "f")))))) (@js1 _ _ _ (@jret _ _ _ _ (@jblt _ _ _ _ _ _ _ _ _ bl_abs rfl z_abs boot_abs (@ja _ _ _ _ _ (@jV _ 0 _ _ rfl (by walk_at "v")) (@ja0 _) (star1 rfl)) (by decide) (by decide) (star1 rfl) (stars rfl)))))) Z1I)
abbrev Z0D:Stmt:=top 6
theorem Z1t:FnScope ["top", "bottom", "factor"] ["top", "bottom"] (defScope Z0D):=by walk_at "s"
theorem Z2F{f:Addr}{fd:FuncData} (F:Fun K "ratio_of" "ratio_of" Z0D f fd) (m:mg "ratio_of" = some (.ref f)) (Z1j:Cal P w K mg base 1 "is_whole" ["thing"] Z0B) (Z0M:Cal P w K mg base 1 "greatest_factor" ["one", "other"] Z0f):Cal P w K mg base 2 "ratio_of" ["top", "bottom"] Z04 :=
 .mk F m (F.binds fun _ _ _ _ _ _ us hl=>args2 hl fun _ _=>rfl) (fnT (W:=Z1y) F Z1t Z2n (fun cdv A outer s H E hr =>
  (@jsc _ _ _ _ _ (@jsif _ _ _ _ _ _ _ _ (@jw _ _ _ (@tor _ _ _ _ _ _ _ (@tnot _ _ _ _ (@tval _ _ _ (@jcallC _ _ _ _ _ _ _ _ _ _ Z1j (hr.mono (by omega)) rfl (@ja _ _ _ _ _ (@jV _ 0 _ _ rfl (by walk_at "v")) (@ja0 _) (star1 rfl)) (by decide) (star1 rfl) (stars rfl)) (fun _=>rfl))) (@tor1 _ _ _ _ (@tnot _ _ _ _ (@tval _ _ _ (@jcallC _ _ _ _ _ _ _ _ _ _ Z1j (hr.mono (by omega)) rfl (@ja _ _ _ _ _ (@jV _ 1 _ _ rfl (by walk_at "v")) (@ja0 _) (star1 rfl)) (by decide) (star1 rfl) (stars rfl)) (fun _=>rfl)))))) (@js1 _ _ _ (@jnever _ _)) (@js0 _)) (@jsc _ _ _ _ _ (@jsif _ _ _ _ _ _ _ _ (@tcmp _ _ _ _ _ _ _ _ (c_eq hr) (@jV _ 1 _ _ rfl (by walk_at "v")) (@ji _ _ _ _) (nomark _)) (@js1 _ _ _ (@jnever _ _)) (@js0 _)) (@jsc _ _ _ _ _ (@jset _ _ _ _ (2) _ _ Z1t.nd rfl (Or.inl rfl) (@jcallC _ _ _ _ _ _ _ _ _ _ Z0M (hr.mono (by omega)) rfl (@ja _ _ _ _ _ (@jV _ 0 _ _ rfl (by walk_at "v")) (@ja _ _ _ _ _ (@jV _ 1 _ _ rfl (by walk_at "v")) (@ja0 _) (star1 rfl)) (star1 rfl)) (by decide) (star1 rfl) (stars rfl)) (by rfl) (by walk_at "f")) (@jsc _ _ _ _ _ (@jsif _ _ _ _ _ _ _ _ (@tcmp _ _ _ _ _ _ _ _ c_lt (@jV _ 1 _ _ rfl (by walk_at "v")) (@ji _ _ _ _) (nomark _)) (@js1 _ _ _ (@jset _ _ _ _ (2) _ _ Z1t.nd rfl (Or.inl rfl) (@jneg _ _ _ _ (@jV _ 2 _ _ rfl (by walk_at "v"))) (by rfl) (by walk_at "f"))) (@js0 _)) (@js1 _ _ _ (@jret _ _ _ _ (@jtup _ _ _ _ _ (@ja _ _ _ _ _ (@jop _ _ _ _ _ _ _ _ b_div (@jV _ 0 _ _ rfl (by walk_at "v")) (@jV _ 2 _ _ rfl (by walk_at "v"))) (@ja _ _ _ _ _ (@jop _ _ _ _ _ _ _ _ b_div (@jV _ 1 _ _ rfl (by walk_at "v")) (@jV _ 2 _ _ rfl (by walk_at "v"))) (@ja0 _) (star1 rfl)) (star1 rfl)))))))))) Z2v)
abbrev Z0s:Stmt:=top 8
theorem Z2j:FnScope ["one", "other"] ["one", "other"] (defScope Z0s):=by walk_at "s"
theorem Z2k{f:Addr}{fd:FuncData} (F:Fun K "ratio_less" "ratio_less" Z0s f fd) (m:mg "ratio_less" = some (.ref f)) (Z0a:Cal P w K mg base 2 "ratio_of" ["top", "bottom"] Z04):Cal P w K mg base 3 "ratio_less" ["one", "other"] Z01 :=
 .mk F m (F.binds fun _ _ _ _ _ _ us hl=>args2 hl fun _ _=>rfl) (fnT (W:=Z1m) F Z2j Z27 (fun cdv A outer s H E hr =>
  (@js1 _ _ _ (@jret _ _ _ _ (@jcallC _ _ _ _ _ _ _ _ _ _ Z0a (hr.mono (by omega)) rfl (@ja _ _ _ _ _ (@jop _ _ _ _ _ _ _ _ b_sub (@jop _ _ _ _ _ _ _ _ b_mul (@jix _ _ _ _ _ _ (@jV _ 0 _ _ rfl (by walk_at "v")) (@ji _ _ _ _) (fun _ _=>rfl)) (@jix _ _ _ _ _ _ (@jV _ 1 _ _ rfl (by walk_at "v")) (@ji _ _ _ _) (fun _ _=>rfl))) (@jop _ _ _ _ _ _ _ _ b_mul (@jix _ _ _ _ _ _ (@jV _ 1 _ _ rfl (by walk_at "v")) (@ji _ _ _ _) (fun _ _=>rfl)) (@jix _ _ _ _ _ _ (@jV _ 0 _ _ rfl (by walk_at "v")) (@ji _ _ _ _) (fun _ _=>rfl)))) (@ja _ _ _ _ _ (@jop _ _ _ _ _ _ _ _ b_mul (@jix _ _ _ _ _ _ (@jV _ 0 _ _ rfl (by walk_at "v")) (@ji _ _ _ _) (fun _ _=>rfl)) (@jix _ _ _ _ _ _ (@jV _ 1 _ _ rfl (by walk_at "v")) (@ji _ _ _ _) (fun _ _=>rfl))) (@ja0 _) (star1 rfl)) (star1 rfl)) (by decide) (star1 rfl) (stars rfl))))) Z2f)
abbrev Z0l:Stmt:=top 9
theorem Z2a:FnScope ["one", "other"] ["one", "other"] (defScope Z0l):=by walk_at "s"
theorem Z2b{f:Addr}{fd:FuncData} (F:Fun K "ratio_times" "ratio_times" Z0l f fd) (m:mg "ratio_times" = some (.ref f)) (Z0a:Cal P w K mg base 2 "ratio_of" ["top", "bottom"] Z04):Cal P w K mg base 3 "ratio_times" ["one", "other"] Z09 :=
 .mk F m (F.binds fun _ _ _ _ _ _ us hl=>args2 hl fun _ _=>rfl) (fnT (W:=Z1b) F Z2a Z20 (fun cdv A outer s H E hr =>
  (@js1 _ _ _ (@jret _ _ _ _ (@jcallC _ _ _ _ _ _ _ _ _ _ Z0a (hr.mono (by omega)) rfl (@ja _ _ _ _ _ (@jop _ _ _ _ _ _ _ _ b_mul (@jix _ _ _ _ _ _ (@jV _ 0 _ _ rfl (by walk_at "v")) (@ji _ _ _ _) (fun _ _=>rfl)) (@jix _ _ _ _ _ _ (@jV _ 1 _ _ rfl (by walk_at "v")) (@ji _ _ _ _) (fun _ _=>rfl))) (@ja _ _ _ _ _ (@jop _ _ _ _ _ _ _ _ b_mul (@jix _ _ _ _ _ _ (@jV _ 0 _ _ rfl (by walk_at "v")) (@ji _ _ _ _) (fun _ _=>rfl)) (@jix _ _ _ _ _ _ (@jV _ 1 _ _ rfl (by walk_at "v")) (@ji _ _ _ _) (fun _ _=>rfl))) (@ja0 _) (star1 rfl)) (star1 rfl)) (by decide) (star1 rfl) (stars rfl))))) Z28)
abbrev Z0w:Stmt:=top 13
theorem Z1B:FnScope ["one", "other", "third", "along", "beyond"] ["one", "other", "third"] (defScope Z0w):=by walk_at "s"
theorem Z2Q{f:Addr}{fd:FuncData} (F:Fun K "turn_of" "turn_of" Z0w f fd) (m:mg "turn_of" = some (.ref f)) (Z03:Cal P w K mg base 3 "ratio_less" ["one", "other"] Z01) (Z0j:Cal P w K mg base 3 "ratio_times" ["one", "other"] Z09) (z_range:mg "range" = none):Cal P w K mg base 4 "turn_of" ["one", "other", "third"] Z00 :=
 .mk F m (F.binds fun _ _ _ _ _ _ us hl=>args3 hl fun _ _ _=>rfl) (fnT (W:=Z1L) F Z1B Z2x (fun cdv A outer s H E hr =>
  (@jsc _ _ _ _ _ (@jsetc _ _ _ _ _ _ _ (defScope Z0w) (["axis"]) (["one" , "other" , "third" , "along" , "beyond"]) ([("other" , 1) , ("one" , 0)]) _ _ _ _ (3) _ _ _ Z1B.nd rfl (Or.inl rfl) rfl rfl rfl (@jiRange1 _ _ _ _ _ _ rfl z_range (@ja _ _ _ _ _ (@ji _ _ _ _) (@ja0 _) (star1 rfl)) (by rfl)) rfl rfl (by decide +kernel) (by decide +kernel) (by decide +kernel) (by decide +kernel) (fun cl C s3 H2 ex=>(@jg _ _ (0) _ (show List.Nodup (["axis" , "other" , "one"]:List Str) from by decide +kernel) rfl (Or.inl rfl) (by walk_at "f"))) (fun cl C s3 H2 ex=>(@jts0 _)) (fun cl C s3 H2 ex=>(@jcallC _ _ _ _ _ _ _ _ _ _ Z03 (hr.mono (by omega)) rfl (@ja _ _ _ _ _ (@jix _ _ _ _ _ _ (@jV _ 1 _ _ rfl (by walk_at "v")) (@jV _ 0 _ _ rfl (by walk_at "v")) (fun _ _=>rfl)) (@ja _ _ _ _ _ (@jix _ _ _ _ _ _ (@jV _ 2 _ _ rfl (by walk_at "v")) (@jV _ 0 _ _ rfl (by walk_at "v")) (fun _ _=>rfl)) (@ja0 _) (star1 rfl)) (star1 rfl)) (by decide) (star1 rfl) (stars rfl))) (fun _=>rfl) (by rfl) (by walk_at "f")) (@jsc _ _ _ _ _ (@jsetc _ _ _ _ _ _ _ (defScope Z0w) (["axis"]) (["one" , "other" , "third" , "along" , "beyond"]) ([("third" , 2) , ("one" , 0)]) _ _ _ _ (4) _ _ _ Z1B.nd rfl (Or.inl rfl) rfl rfl rfl (@jiRange1 _ _ _ _ _ _ rfl z_range (@ja _ _ _ _ _ (@ji _ _ _ _) (@ja0 _) (star1 rfl)) (by rfl)) rfl rfl (by decide +kernel) (by decide +kernel) (by decide +kernel) (by decide +kernel) (fun cl C s3 H2 ex=>(@jg _ _ (0) _ (show List.Nodup (["axis" , "third" , "one"]:List Str) from by decide +kernel) rfl (Or.inl rfl) (by walk_at "f"))) (fun cl C s3 H2 ex=>(@jts0 _)) (fun cl C s3 H2 ex=>(@jcallC _ _ _ _ _ _ _ _ _ _ Z03 (hr.mono (by omega)) rfl (@ja _ _ _ _ _ (@jix _ _ _ _ _ _ (@jV _ 1 _ _ rfl (by walk_at "v")) (@jV _ 0 _ _ rfl (by walk_at "v")) (fun _ _=>rfl)) (@ja _ _ _ _ _ (@jix _ _ _ _ _ _ (@jV _ 2 _ _ rfl (by walk_at "v")) (@jV _ 0 _ _ rfl (by walk_at "v")) (fun _ _=>rfl)) (@ja0 _) (star1 rfl)) (star1 rfl)) (by decide) (star1 rfl) (stars rfl))) (fun _=>rfl) (by rfl) (by walk_at "f")) (@js1 _ _ _ (@jret _ _ _ _ (@jcallC _ _ _ _ _ _ _ _ _ _ Z03 (hr.mono (by omega)) rfl (@ja _ _ _ _ _ (@jcallC _ _ _ _ _ _ _ _ _ _ Z0j (hr.mono (by omega)) rfl (@ja _ _ _ _ _ (@jix _ _ _ _ _ _ (@jV _ 3 _ _ rfl (by walk_at "v")) (@ji _ _ _ _) (fun _ _=>rfl)) (@ja _ _ _ _ _ (@jix _ _ _ _ _ _ (@jV _ 4 _ _ rfl (by walk_at "v")) (@ji _ _ _ _) (fun _ _=>rfl)) (@ja0 _) (star1 rfl)) (star1 rfl)) (by decide) (star1 rfl) (stars rfl)) (@ja _ _ _ _ _ (@jcallC _ _ _ _ _ _ _ _ _ _ Z0j (hr.mono (by omega)) rfl (@ja _ _ _ _ _ (@jix _ _ _ _ _ _ (@jV _ 3 _ _ rfl (by walk_at "v")) (@ji _ _ _ _) (fun _ _=>rfl)) (@ja _ _ _ _ _ (@jix _ _ _ _ _ _ (@jV _ 4 _ _ rfl (by walk_at "v")) (@ji _ _ _ _) (fun _ _=>rfl)) (@ja0 _) (star1 rfl)) (star1 rfl)) (by decide) (star1 rfl) (stars rfl)) (@ja0 _) (star1 rfl)) (star1 rfl)) (by decide) (star1 rfl) (stars rfl))))))) Z2K)
abbrev Z0E:Stmt:=top 10
theorem Z2G:FnScope ["one", "other"] ["one", "other"] (defScope Z0E):=by walk_at "s"
theorem Z2H{f:Addr}{fd:FuncData} (F:Fun K "ratio_by" "ratio_by" Z0E f fd) (m:mg "ratio_by" = some (.ref f)) (Z0a:Cal P w K mg base 2 "ratio_of" ["top", "bottom"] Z04):Cal P w K mg base 3 "ratio_by" ["one", "other"] Z0Q :=
 .mk F m (F.binds fun _ _ _ _ _ _ us hl=>args2 hl fun _ _=>rfl) (fnT (W:=Z1z) F Z2G Z2p (fun cdv A outer s H E hr =>
  (@js1 _ _ _ (@jret _ _ _ _ (@jcallC _ _ _ _ _ _ _ _ _ _ Z0a (hr.mono (by omega)) rfl (@ja _ _ _ _ _ (@jop _ _ _ _ _ _ _ _ b_mul (@jix _ _ _ _ _ _ (@jV _ 0 _ _ rfl (by walk_at "v")) (@ji _ _ _ _) (fun _ _=>rfl)) (@jix _ _ _ _ _ _ (@jV _ 1 _ _ rfl (by walk_at "v")) (@ji _ _ _ _) (fun _ _=>rfl))) (@ja _ _ _ _ _ (@jop _ _ _ _ _ _ _ _ b_mul (@jix _ _ _ _ _ _ (@jV _ 0 _ _ rfl (by walk_at "v")) (@ji _ _ _ _) (fun _ _=>rfl)) (@jix _ _ _ _ _ _ (@jV _ 1 _ _ rfl (by walk_at "v")) (@ji _ _ _ _) (fun _ _=>rfl))) (@ja0 _) (star1 rfl)) (star1 rfl)) (by decide) (star1 rfl) (stars rfl))))) Z2w)
abbrev Z0z:Stmt:=top 7
theorem Z2r:FnScope ["one", "other"] ["one", "other"] (defScope Z0z):=by walk_at "s"
theorem Z2s{f:Addr}{fd:FuncData} (F:Fun K "ratio_sum" "ratio_sum" Z0z f fd) (m:mg "ratio_sum" = some (.ref f)) (Z0a:Cal P w K mg base 2 "ratio_of" ["top", "bottom"] Z04):Cal P w K mg base 3 "ratio_sum" ["one", "other"] Z0H :=
 .mk F m (F.binds fun _ _ _ _ _ _ us hl=>args2 hl fun _ _=>rfl) (fnT (W:=Z1r) F Z2r Z2e (fun cdv A outer s H E hr =>
  (@js1 _ _ _ (@jret _ _ _ _ (@jcallC _ _ _ _ _ _ _ _ _ _ Z0a (hr.mono (by omega)) rfl (@ja _ _ _ _ _ (@jop _ _ _ _ _ _ _ _ b_add (@jop _ _ _ _ _ _ _ _ b_mul (@jix _ _ _ _ _ _ (@jV _ 0 _ _ rfl (by walk_at "v")) (@ji _ _ _ _) (fun _ _=>rfl)) (@jix _ _ _ _ _ _ (@jV _ 1 _ _ rfl (by walk_at "v")) (@ji _ _ _ _) (fun _ _=>rfl))) (@jop _ _ _ _ _ _ _ _ b_mul (@jix _ _ _ _ _ _ (@jV _ 1 _ _ rfl (by walk_at "v")) (@ji _ _ _ _) (fun _ _=>rfl)) (@jix _ _ _ _ _ _ (@jV _ 0 _ _ rfl (by walk_at "v")) (@ji _ _ _ _) (fun _ _=>rfl)))) (@ja _ _ _ _ _ (@jop _ _ _ _ _ _ _ _ b_mul (@jix _ _ _ _ _ _ (@jV _ 0 _ _ rfl (by walk_at "v")) (@ji _ _ _ _) (fun _ _=>rfl)) (@jix _ _ _ _ _ _ (@jV _ 1 _ _ rfl (by walk_at "v")) (@ji _ _ _ _) (fun _ _=>rfl))) (@ja0 _) (star1 rfl)) (star1 rfl)) (by decide) (star1 rfl) (stars rfl))))) Z2o)
abbrev Z05:Stmt:=top 16
theorem Z1X:FnScope ["one", "other", "way"] ["one", "other", "way"] (defScope Z05):=by walk_at "s"
theorem Z1Y{f:Addr}{fd:FuncData} (F:Fun K "place_between" "place_between" Z05 f fd) (m:mg "place_between" = some (.ref f)) (Z03:Cal P w K mg base 3 "ratio_less" ["one", "other"] Z01) (Z0j:Cal P w K mg base 3 "ratio_times" ["one", "other"] Z09) (Z1u:Cal P w K mg base 3 "ratio_sum" ["one", "other"] Z0H) (z_range:mg "range" = none) (z_tuple:mg "tuple" = none):Cal P w K mg base 4 "place_between" ["one", "other", "way"] Z0n :=
 .mk F m (F.binds fun _ _ _ _ _ _ us hl=>args3 hl fun _ _ _=>rfl) (fnT (W:=Z0U) F Z1X Z1M (fun cdv A outer s H E hr =>
  (@js1 _ _ _ (@jret _ _ _ _ (@jty _ _ _ _ _ _ _ _ _ ty_tuple rfl z_tuple boot_tuple (@ja _ _ _ _ _ (@jcomp _ _ _ _ _ _ _ (defScope Z05) (["axis"]) (["one" , "other" , "way"]) ([("one" , 0) , ("way" , 2) , ("other" , 1)]) _ _ _ _ rfl rfl rfl (@jiRange1 _ _ _ _ _ _ rfl z_range (@ja _ _ _ _ _ (@ji _ _ _ _) (@ja0 _) (star1 rfl)) (by rfl)) rfl rfl (by decide +kernel) (by decide +kernel) (by decide +kernel) (by decide +kernel) (fun cl C s3 H2 ex=>(@jg _ _ (0) _ (show List.Nodup (["axis" , "one" , "way" , "other"]:List Str) from by decide +kernel) rfl (Or.inl rfl) (by walk_at "f"))) (fun cl C s3 H2 ex=>(@jts0 _)) (fun cl C s3 H2 ex=>(@jcallC _ _ _ _ _ _ _ _ _ _ Z1u (hr.mono (by omega)) rfl (@ja _ _ _ _ _ (@jix _ _ _ _ _ _ (@jV _ 1 _ _ rfl (by walk_at "v")) (@jV _ 0 _ _ rfl (by walk_at "v")) (fun _ _=>rfl)) (@ja _ _ _ _ _ (@jcallC _ _ _ _ _ _ _ _ _ _ Z0j (hr.mono (by omega)) rfl (@ja _ _ _ _ _ (@jV _ 2 _ _ rfl (by walk_at "v")) (@ja _ _ _ _ _ (@jcallC _ _ _ _ _ _ _ _ _ _ Z03 (hr.mono (by omega)) rfl (@ja _ _ _ _ _ (@jix _ _ _ _ _ _ (@jV _ 3 _ _ rfl (by walk_at "v")) (@jV _ 0 _ _ rfl (by walk_at "v")) (fun _ _=>rfl)) (@ja _ _ _ _ _ (@jix _ _ _ _ _ _ (@jV _ 1 _ _ rfl (by walk_at "v")) (@jV _ 0 _ _ rfl (by walk_at "v")) (fun _ _=>rfl)) (@ja0 _) (star1 rfl)) (star1 rfl)) (by decide) (star1 rfl) (stars rfl)) (@ja0 _) (star1 rfl)) (star1 rfl)) (by decide) (star1 rfl) (stars rfl)) (@ja0 _) (star1 rfl)) (star1 rfl)) (by decide) (star1 rfl) (stars rfl))) (fun _=>rfl)) (@ja0 _) (star1 rfl)) (by decide) (by decide) (star1 rfl) (stars rfl))))) Z1U)
abbrev Z0e:Stmt:=top 17
theorem Z06:FnScope ["corners", "heights", "kept", "number", "corner", "here", "ahead", "way"] ["corners", "heights"] (defScope Z0e):=by walk_at "s"
theorem Z1Z{f:Addr}{fd:FuncData} (F:Fun K "cut_at_nought" "cut_at_nought" Z0e f fd) (m:mg "cut_at_nought" = some (.ref f)) (Z03:Cal P w K mg base 3 "ratio_less" ["one", "other"] Z01) (Z1C:Cal P w K mg base 3 "ratio_by" ["one", "other"] Z0Q) (Z0W:Cal P w K mg base 4 "place_between" ["one", "other", "way"] Z0n) (z_enumerate:mg "enumerate" = none):Cal P w K mg base 5 "cut_at_nought" ["corners", "heights"] Z0o :=
 .mk F m (F.binds fun _ _ _ _ _ _ us hl=>args2 hl fun _ _=>rfl) (fnT (W:=Z0V) F Z06 Z1N (fun cdv A outer s H E hr =>
  (@jsc _ _ _ _ _ (@jown _ _ _ _ (2) _ _ _ Z06.nd rfl (Or.inl rfl) (@ja0 _) (by rfl) (by walk_at "f")) (@jsc _ _ _ _ _ (@jfor _ _ _ _ _ _ _ _ PassesOwn.never rfl (@jiEnum _ _ _ _ _ _ _ _ rfl z_enumerate (@ja _ _ _ _ _ (@jV _ 0 _ _ rfl (by walk_at "v")) (@ja0 _) (star1 rfl)) (by rfl)) (@jgt _ _ _ _ _ _ rfl (@jgsc _ _ _ _ _ (@jg _ _ (3) _ Z06.nd rfl (Or.inl rfl) (by walk_at "f")) (@jgsc _ _ _ _ _ (@jg _ _ (4) _ Z06.nd rfl (Or.inl rfl) (by walk_at "f")) (@jgs0 _) (by rfl)) (by rfl)) (by rfl) (by rfl)) (@jsc _ _ _ _ _ (@jset _ _ _ _ (5) _ _ Z06.nd rfl (Or.inl rfl) (@jix _ _ _ _ _ _ (@jV _ 1 _ _ rfl (by walk_at "v")) (@jV _ 3 _ _ rfl (by walk_at "v")) (fun _ _=>rfl)) (by rfl) (by walk_at "f")) (@jsc _ _ _ _ _ (@jset _ _ _ _ (6) _ _ Z06.nd rfl (Or.inl rfl) (@jix _ _ _ _ _ _ (@jV _ 1 _ _ rfl (by walk_at "v")) (@jop _ _ _ _ _ _ _ _ b_sub (@jV _ 3 _ _ rfl (by walk_at "v")) (@ji _ _ _ _)) (fun _ _=>rfl)) (by rfl) (by walk_at "f")) (@jsc _ _ _ _ _ (@jsif _ _ _ _ _ _ _ _ (@tcmp _ _ _ _ _ _ _ _ c_lt (@jop _ _ _ _ _ _ _ _ b_mul (@jix _ _ _ _ _ _ (@jV _ 5 _ _ rfl (by walk_at "v")) (@ji _ _ _ _) (fun _ _=>rfl)) (@jix _ _ _ _ _ _ (@jV _ 6 _ _ rfl (by walk_at "v")) (@ji _ _ _ _) (fun _ _=>rfl))) (@ji _ _ _ _) (nomark _)) (@jsc _ _ _ _ _ (@jset _ _ _ _ (7) _ _ Z06.nd rfl (Or.inl rfl) (@jcallC _ _ _ _ _ _ _ _ _ _ Z1C (hr.mono (by omega)) rfl (@ja _ _ _ _ _ (@jV _ 6 _ _ rfl (by walk_at "v")) (@ja _ _ _ _ _ (@jcallC _ _ _ _ _ _ _ _ _ _ Z03 (hr.mono (by omega)) rfl (@ja _ _ _ _ _ (@jV _ 6 _ _ rfl (by walk_at "v")) (@ja _ _ _ _ _ (@jV _ 5 _ _ rfl (by walk_at "v")) (@ja0 _) (star1 rfl)) (star1 rfl)) (by decide) (star1 rfl) (stars rfl)) (@ja0 _) (star1 rfl)) (star1 rfl)) (by decide) (star1 rfl) (stars rfl)) (by rfl) (by walk_at "f")) (@js1 _ _ _ (@japp _ _ _ _ _ _ _ _ _ (pv 2) (@jcallC _ _ _ _ _ _ _ _ _ _ Z0W (hr.mono (by omega)) rfl (@ja _ _ _ _ _ (@jix _ _ _ _ _ _ (@jV _ 0 _ _ rfl (by walk_at "v")) (@jop _ _ _ _ _ _ _ _ b_sub (@jV _ 3 _ _ rfl (by walk_at "v")) (@ji _ _ _ _)) (fun _ _=>rfl)) (@ja _ _ _ _ _ (@jV _ 4 _ _ rfl (by walk_at "v")) (@ja _ _ _ _ _ (@jV _ 7 _ _ rfl (by walk_at "v")) (@ja0 _) (star1 rfl)) (star1 rfl)) (star1 rfl)) (by decide) (star1 rfl) (stars rfl)) (by rfl) (by rfl) (by rfl) (by rfl) (by rfl) (by rfl)))) (@js0 _)) (@js1 _ _ _ (@jsif _ _ _ _ _ _ _ _ (@tcmp _ _ _ _ _ _ _ _ c_ge (@jix _ _ _ _ _ _ (@jV _ 5 _ _ rfl (by walk_at "v")) (@ji _ _ _ _) (fun _ _=>rfl)) (@ji _ _ _ _) (nomark _)) (@js1 _ _ _ (@japp _ _ _ _ _ _ _ _ _ (pv 2) (@jV _ 4 _ _ rfl (by walk_at "v")) (by rfl) (by rfl) (by rfl) (by rfl) (by rfl) (by rfl))) (@js0 _)))))) (fun _=>rfl)) (@jfrz _ _ 2 _ (@js1 _ _ _ (@jret _ _ _ _ (@jV _ 2 _ _ rfl (by walk_at "v")))))))) Z1V)
abbrev Z0F:Stmt:=top 11
theorem Z2I:FnScope ["one", "other"] ["one", "other"] (defScope Z0F):=by walk_at "s"
theorem Z2J{f:Addr}{fd:FuncData} (F:Fun K "is_under" "is_under" Z0F f fd) (m:mg "is_under" = some (.ref f)):Cal P w K mg base 1 "is_under" ["one", "other"] Z0m :=
 .mk F m (F.binds fun _ _ _ _ _ _ us hl=>args2 hl fun _ _=>rfl) (fnT (W:=Z1A) F Z2I Z2q (fun cdv A outer s H E hr =>
  (@js1 _ _ _ (@jret _ _ _ _ (@jcmp _ _ _ _ _ _ _ _ c_lt (@jop _ _ _ _ _ _ _ _ b_mul (@jix _ _ _ _ _ _ (@jV _ 0 _ _ rfl (by walk_at "v")) (@ji _ _ _ _) (fun _ _=>rfl)) (@jix _ _ _ _ _ _ (@jV _ 1 _ _ rfl (by walk_at "v")) (@ji _ _ _ _) (fun _ _=>rfl))) (@jop _ _ _ _ _ _ _ _ b_mul (@jix _ _ _ _ _ _ (@jV _ 1 _ _ rfl (by walk_at "v")) (@ji _ _ _ _) (fun _ _=>rfl)) (@jix _ _ _ _ _ _ (@jV _ 0 _ _ rfl (by walk_at "v")) (@ji _ _ _ _) (fun _ _=>rfl))) (nomark _))))) Z1T)
abbrev Z0d:Stmt:=top 14
theorem Z1R:FnScope ["one", "other"] ["one", "other"] (defScope Z0d):=by walk_at "s"
theorem Z1S{f:Addr}{fd:FuncData} (F:Fun K "is_lower_place" "is_lower_place" Z0d f fd) (m:mg "is_lower_place" = some (.ref f)) (Z1k:Cal P w K mg base 1 "is_under" ["one", "other"] Z0m):Cal P w K mg base 2 "is_lower_place" ["one", "other"] Z0h :=
 .mk F m (F.binds fun _ _ _ _ _ _ us hl=>args2 hl fun _ _=>rfl) (fnT (W:=Z0R) F Z1R Z1J (fun cdv A outer s H E hr =>
  (@jsc _ _ _ _ _ (@jsif _ _ _ _ _ _ _ _ (@tcmp _ _ _ _ _ _ _ _ (c_ne hr) (@jix _ _ _ _ _ _ (@jV _ 0 _ _ rfl (by walk_at "v")) (@ji _ _ _ _) (fun _ _=>rfl)) (@jix _ _ _ _ _ _ (@jV _ 1 _ _ rfl (by walk_at "v")) (@ji _ _ _ _) (fun _ _=>rfl)) (nomark _)) (@js1 _ _ _ (@jret _ _ _ _ (@jcallC _ _ _ _ _ _ _ _ _ _ Z1k (hr.mono (by omega)) rfl (@ja _ _ _ _ _ (@jix _ _ _ _ _ _ (@jV _ 0 _ _ rfl (by walk_at "v")) (@ji _ _ _ _) (fun _ _=>rfl)) (@ja _ _ _ _ _ (@jix _ _ _ _ _ _ (@jV _ 1 _ _ rfl (by walk_at "v")) (@ji _ _ _ _) (fun _ _=>rfl)) (@ja0 _) (star1 rfl)) (star1 rfl)) (by decide) (star1 rfl) (stars rfl)))) (@js0 _)) (@js1 _ _ _ (@jret _ _ _ _ (@jcallC _ _ _ _ _ _ _ _ _ _ Z1k (hr.mono (by omega)) rfl (@ja _ _ _ _ _ (@jix _ _ _ _ _ _ (@jV _ 0 _ _ rfl (by walk_at "v")) (@ji _ _ _ _) (fun _ _=>rfl)) (@ja _ _ _ _ _ (@jix _ _ _ _ _ _ (@jV _ 1 _ _ rfl (by walk_at "v")) (@ji _ _ _ _) (fun _ _=>rfl)) (@ja0 _) (star1 rfl)) (star1 rfl)) (by decide) (star1 rfl) (stars rfl)))))) Z1O)
abbrev Z0g:Stmt:=top 18
theorem Z0t:FnScope ["corners", "first", "number", "corner"] ["corners"] (defScope Z0g):=by walk_at "s"
theorem Z23{f:Addr}{fd:FuncData} (F:Fun K "begun_lowest" "begun_lowest" Z0g f fd) (m:mg "begun_lowest" = some (.ref f)) (Z0S:Cal P w K mg base 2 "is_lower_place" ["one", "other"] Z0h) (z_enumerate:mg "enumerate" = none):CalO P w K mg base 3 "begun_lowest" ["corners"] Z0b :=
 .mk F m (F.binds fun _ _ _ _ _ _ us hl=>args1 hl fun _=>rfl) (fnLN (W:=Z13) F Z0t Z1W (fun cdv A outer s H E hr =>
  (jln_c (jln_s (@jset _ _ _ _ (1) _ _ Z0t.nd rfl (Or.inl rfl) (@ji _ _ _ _) (by rfl) (by walk_at "f"))) (jln_c (jln_s (@jfor _ _ _ _ _ _ _ _ PassesOwn.never rfl (@jiEnum _ _ _ _ _ _ _ _ rfl z_enumerate (@ja _ _ _ _ _ (@jV _ 0 _ _ rfl (by walk_at "v")) (@ja0 _) (star1 rfl)) (by rfl)) (@jgt _ _ _ _ _ _ rfl (@jgsc _ _ _ _ _ (@jg _ _ (2) _ Z0t.nd rfl (Or.inl rfl) (by walk_at "f")) (@jgsc _ _ _ _ _ (@jg _ _ (3) _ Z0t.nd rfl (Or.inl rfl) (by walk_at "f")) (@jgs0 _) (by rfl)) (by rfl)) (by rfl) (by rfl)) (@js1 _ _ _ (@jsif _ _ _ _ _ _ _ _ (@tval _ _ _ (@jcallC _ _ _ _ _ _ _ _ _ _ Z0S (hr.mono (by omega)) rfl (@ja _ _ _ _ _ (@jV _ 3 _ _ rfl (by walk_at "v")) (@ja _ _ _ _ _ (@jix _ _ _ _ _ _ (@jV _ 0 _ _ rfl (by walk_at "v")) (@jV _ 1 _ _ rfl (by walk_at "v")) (fun _ _=>rfl)) (@ja0 _) (star1 rfl)) (star1 rfl)) (by decide) (star1 rfl) (stars rfl)) (fun _=>rfl)) (@js1 _ _ _ (@jset _ _ _ _ (1) _ _ Z0t.nd rfl (Or.inl rfl) (@jV _ 2 _ _ rfl (by walk_at "v")) (by rfl) (by walk_at "f"))) (@js0 _))) (fun _=>rfl))) (jln_1 (jln_ret (jf_cat (@jsl _ _ _ _ _ _ _ _ _ (@jV _ 0 _ _ rfl (by walk_at "v")) (@jo _ _ _ (@jV _ 1 _ _ rfl (by walk_at "v"))) (@jo0 _)) (@jsl _ _ _ _ _ _ _ _ _ (@jV _ 0 _ _ rfl (by walk_at "v")) (@jo0 _) (@jo _ _ _ (@jV _ 1 _ _ rfl (by walk_at "v")))))))))) Z21)
abbrev Z0k:Stmt:=top 19
theorem Z0u:FnScope ["corners", "unlike", "left", "number", "corner", "behind"] ["corners"] (defScope Z0k):=by walk_at "s"
theorem Z2l{f:Addr}{fd:FuncData} (F:Fun K "part_round" "part_round" Z0k f fd) (m:mg "part_round" = some (.ref f)) (Z0X:Cal P w K mg base 4 "turn_of" ["one", "other", "third"] Z00) (Z14:CalO P w K mg base 3 "begun_lowest" ["corners"] Z0b) (z_enumerate:mg "enumerate" = none) (z_len:mg "len" = none):CalO P w K mg base 5 "part_round" ["corners"] Z0i :=
 .mk F m (F.binds fun _ _ _ _ _ _ us hl=>args1 hl fun _=>rfl) (fnLN (W:=Z0I) F Z0u Z29 (fun cdv A outer s H E hr =>
  (jln_c (jln_s (@jsetc _ _ _ _ _ _ _ (defScope Z0k) (["number" , "corner"]) (["corners" , "unlike" , "left" , "number" , "corner" , "behind"]) ([("corners" , 0)]) _ _ _ _ (1) _ _ _ Z0u.nd rfl (Or.inl rfl) rfl rfl rfl (@jiEnum _ _ _ _ _ _ _ _ rfl z_enumerate (@ja _ _ _ _ _ (@jV _ 0 _ _ rfl (by walk_at "v")) (@ja0 _) (star1 rfl)) (by rfl)) rfl rfl (by decide +kernel) (by decide +kernel) (by decide +kernel) (by decide +kernel) (fun cl C s3 H2 ex=>(@jgt _ _ _ _ _ _ rfl (@jgsc _ _ _ _ _ (@jg _ _ (0) _ (show List.Nodup (["number" , "corner" , "corners"]:List Str) from by decide +kernel) rfl (Or.inl rfl) (by walk_at "f")) (@jgsc _ _ _ _ _ (@jg _ _ (1) _ (show List.Nodup (["number" , "corner" , "corners"]:List Str) from by decide +kernel) rfl (Or.inl rfl) (by walk_at "f")) (@jgs0 _) (by rfl)) (by rfl)) (by rfl) (by rfl))) (fun cl C s3 H2 ex=>(@jts1 _ _ _ (@tcmp _ _ _ _ _ _ _ _ (c_ne hr) (@jV _ 1 _ _ rfl (by walk_at "v")) (@jix _ _ _ _ _ _ (@jV _ 2 _ _ rfl (by walk_at "v")) (@jop _ _ _ _ _ _ _ _ b_sub (@jV _ 0 _ _ rfl (by walk_at "v")) (@ji _ _ _ _)) (fun _ _=>rfl)) (nomark _)))) (fun cl C s3 H2 ex=>(@jV _ 1 _ _ rfl (by walk_at "v"))) (fun _=>rfl) (by rfl) (by walk_at "f"))) (jln_c (jln_s (@jown _ _ _ _ (2) _ _ _ Z0u.nd rfl (Or.inl rfl) (@ja0 _) (by rfl) (by walk_at "f"))) (jln_c (jln_s (@jfor _ _ _ _ _ _ _ _ PassesOwn.never rfl (@jiEnum _ _ _ _ _ _ _ _ rfl z_enumerate (@ja _ _ _ _ _ (@jV _ 1 _ _ rfl (by walk_at "v")) (@ja0 _) (star1 rfl)) (by rfl)) (@jgt _ _ _ _ _ _ rfl (@jgsc _ _ _ _ _ (@jg _ _ (3) _ Z0u.nd rfl (Or.inl rfl) (by walk_at "f")) (@jgsc _ _ _ _ _ (@jg _ _ (4) _ Z0u.nd rfl (Or.inl rfl) (by walk_at "f")) (@jgs0 _) (by rfl)) (by rfl)) (by rfl) (by rfl)) (@jsc _ _ _ _ _ (@jset _ _ _ _ (5) _ _ Z0u.nd rfl (Or.inl rfl) (@jix _ _ _ _ _ _ (@jV _ 1 _ _ rfl (by walk_at "v")) (@jop _ _ _ _ _ _ _ _ b_mod (@jop _ _ _ _ _ _ _ _ b_add (@jV _ 3 _ _ rfl (by walk_at "v")) (@ji _ _ _ _)) (@jblt _ _ _ _ _ _ _ _ _ bl_len rfl z_len boot_len (@ja _ _ _ _ _ (@jV _ 1 _ _ rfl (by walk_at "v")) (@ja0 _) (star1 rfl)) (by decide) (by decide) (star1 rfl) (stars rfl))) (fun _ _=>rfl)) (by rfl) (by walk_at "f")) (@js1 _ _ _ (@jsif _ _ _ _ _ _ _ _ (@tcmp _ _ _ _ _ _ _ _ c_gt (@jix _ _ _ _ _ _ (@jcallC _ _ _ _ _ _ _ _ _ _ Z0X (hr.mono (by omega)) rfl (@ja _ _ _ _ _ (@jix _ _ _ _ _ _ (@jV _ 1 _ _ rfl (by walk_at "v")) (@jop _ _ _ _ _ _ _ _ b_sub (@jV _ 3 _ _ rfl (by walk_at "v")) (@ji _ _ _ _)) (fun _ _=>rfl)) (@ja _ _ _ _ _ (@jV _ 4 _ _ rfl (by walk_at "v")) (@ja _ _ _ _ _ (@jV _ 5 _ _ rfl (by walk_at "v")) (@ja0 _) (star1 rfl)) (star1 rfl)) (star1 rfl)) (by decide) (star1 rfl) (stars rfl)) (@ji _ _ _ _) (fun _ _=>rfl)) (@ji _ _ _ _) (nomark _)) (@js1 _ _ _ (@japp _ _ _ _ _ _ _ _ _ (pv 2) (@jV _ 4 _ _ rfl (by walk_at "v")) (by rfl) (by rfl) (by rfl) (by rfl) (by rfl) (by rfl))) (@js0 _)))) (fun _=>rfl))) (jln_frz 2 (jln_1 (jln_ret (jf_call Z14 (hr.mono (by omega)) rfl (@ja _ _ _ _ _ (@jV _ 2 _ _ rfl (by walk_at "v")) (@ja0 _) (star1 rfl)))))))))) Z2g)
abbrev Z0A:Stmt:=top 20
theorem Z0P:FnScope ["one", "other", "corners", "number", "corner", "edge"] ["one", "other"] (defScope Z0A):=by walk_at "s"
theorem Z2R{f:Addr}{fd:FuncData} (F:Fun K "both_of" "both_of" Z0A f fd) (m:mg "both_of" = some (.ref f)) (Z0X:Cal P w K mg base 4 "turn_of" ["one", "other", "third"] Z00) (Z0Y:Cal P w K mg base 5 "cut_at_nought" ["corners", "heights"] Z0o) (Z1n:CalO P w K mg base 5 "part_round" ["corners"] Z0i) (z_enumerate:mg "enumerate" = none):CalO P w K mg base 6 "both_of" ["one", "other"] Z02 :=
 .mk F m (F.binds fun _ _ _ _ _ _ us hl=>args2 hl fun _ _=>rfl) (fnLN (W:=Z1c) F Z0P Z2y (fun cdv A outer s H E hr =>
  (jln_c (jln_if (@tnot _ _ _ _ (@ttru _ _ _ (@jV _ 1 _ _ rfl (by walk_at "v")) (fun _=>rfl))) (jln_1 (jln_ret (jf_lst (@ja0 _)))) jln_nil) (jln_c (jln_s (@jset _ _ _ _ (2) _ _ Z0P.nd rfl (Or.inl rfl) (@jV _ 0 _ _ rfl (by walk_at "v")) (by rfl) (by walk_at "f"))) (jln_c (jln_s (@jfor _ _ _ _ _ _ _ _ PassesOwn.never rfl (@jiEnum _ _ _ _ _ _ _ _ rfl z_enumerate (@ja _ _ _ _ _ (@jV _ 1 _ _ rfl (by walk_at "v")) (@ja0 _) (star1 rfl)) (by rfl)) (@jgt _ _ _ _ _ _ rfl (@jgsc _ _ _ _ _ (@jg _ _ (3) _ Z0P.nd rfl (Or.inl rfl) (by walk_at "f")) (@jgsc _ _ _ _ _ (@jg _ _ (4) _ Z0P.nd rfl (Or.inr rfl) (by walk_at "f")) (@jgs0 _) (by rfl)) (by rfl)) (by rfl) (by rfl)) (@jsc _ _ _ _ _ (@jset _ _ _ _ (5) _ _ Z0P.nd rfl (Or.inr rfl) (@jix _ _ _ _ _ _ (@jV _ 1 _ _ rfl (by walk_at "v")) (@jop _ _ _ _ _ _ _ _ b_sub (@jV _ 3 _ _ rfl (by walk_at "v")) (@ji _ _ _ _)) (fun _ _=>rfl)) (by rfl) (by walk_at "f")) (@js1 _ _ _ (@jset _ _ _ _ (2) _ _ Z0P.nd rfl (Or.inl rfl) (@jcallC _ _ _ _ _ _ _ _ _ _ Z0Y (hr.mono (by omega)) rfl (@ja _ _ _ _ _ (@jV _ 2 _ _ rfl (by walk_at "v")) (@ja _ _ _ _ _ (@jcomp _ _ _ _ _ _ _ (defScope Z0A) (["place"]) (["one" , "other" , "corners" , "number" , "corner" , "edge"]) ([("edge" , 5) , ("corner" , 4)]) _ _ _ _ rfl rfl rfl (@jiSeq _ _ _ _ (@jV _ 2 _ _ rfl (by walk_at "v"))) rfl rfl (by decide +kernel) (by decide +kernel) (by decide +kernel) (by decide +kernel) (fun cl C s3 H2 ex=>(@jg _ _ (0) _ (show List.Nodup (["place" , "edge" , "corner"]:List Str) from by decide +kernel) rfl (Or.inl rfl) (by walk_at "f"))) (fun cl C s3 H2 ex=>(@jts0 _)) (fun cl C s3 H2 ex=>(@jcallC _ _ _ _ _ _ _ _ _ _ Z0X (hr.mono (by omega)) rfl (@ja _ _ _ _ _ (@jV _ 1 _ _ rfl (by walk_at "v")) (@ja _ _ _ _ _ (@jV _ 2 _ _ rfl (by walk_at "v")) (@ja _ _ _ _ _ (@jV _ 0 _ _ rfl (by walk_at "v")) (@ja0 _) (star1 rfl)) (star1 rfl)) (star1 rfl)) (by decide) (star1 rfl) (stars rfl))) (fun _=>rfl)) (@ja0 _) (star1 rfl)) (star1 rfl)) (by decide) (star1 rfl) (stars rfl)) (by rfl) (by walk_at "f")))) (fun _=>rfl))) (jln_1 (jln_ret (jf_call Z1n (hr.mono (by omega)) rfl (@ja _ _ _ _ _ (@jV _ 2 _ _ rfl (by walk_at "v")) (@ja0 _) (star1 rfl))))))))) Z2L)
abbrev Z1a:Stmt:=top 32
theorem Z24:FnScope ["_law_found", "_law_due", "_law_place", "_law_number"] ["_law_found", "_law_due"] (defScope Z1a):=by walk_at "s"
theorem Z34{f:Addr}{fd:FuncData} (F:Fun K "_law_alike" "_law_alike" Z1a f fd) (m:mg "_law_alike" = some (.ref f)) (z_isinstance:mg "isinstance" = none) (z_list:mg "list" = none) (z_tuple:mg "tuple" = none) (z_int:mg "int" = none) (z_bool:mg "bool" = none):Cal P w K mg base 1 "_law_alike" ["_law_found", "_law_due"] Z0N :=
 .mk F m (F.binds fun _ _ _ _ _ _ us hl=>args2 hl fun _ _=>rfl) (fnT (W:=Z2h) F Z24 Z2W (fun cdv A outer s H E hr =>
  (@jsc _ _ _ _ _ (@jsif _ _ _ _ _ _ _ _ (@jw _ _ _ (@tor _ _ _ _ _ _ _ (@tnot _ _ _ _ (@tval _ _ _ (@jisi _ _ _ _ .list _ _ _ (@jV _ 0 _ _ rfl (by walk_at "v")) rfl z_isinstance rfl z_list boot_list (by decide) (by decide) (star1 rfl) (star1 rfl) (stars rfl)) (fun _=>rfl))) (@tor1 _ _ _ _ (@tcmp _ _ _ _ _ _ _ _ (c_ne hr) (@jV _ 0 _ _ rfl (by walk_at "v")) (@jV _ 1 _ _ rfl (by walk_at "v")) (nomark _))))) (@js1 _ _ _ (@jret _ _ _ _ (@jb _ _ _ _))) (@js0 _)) (@jsc _ _ _ _ _ (@jfor _ _ _ _ _ _ _ _ PassesOwn.never rfl (@jiSeq _ _ _ _ (@jV _ 0 _ _ rfl (by walk_at "v"))) (@jg _ _ (2) _ Z24.nd rfl (Or.inl rfl) (by walk_at "f")) (@jsc _ _ _ _ _ (@jsif _ _ _ _ _ _ _ _ (@jw _ _ _ (@tor _ _ _ _ _ _ _ (@tnot _ _ _ _ (@tval _ _ _ (@jisi _ _ _ _ .tuple _ _ _ (@jV _ 2 _ _ rfl (by walk_at "v")) rfl z_isinstance rfl z_tuple boot_tuple (by decide) (by decide) (star1 rfl) (star1 rfl) (stars rfl)) (fun _=>rfl))) (@tor _ _ _ _ _ _ _ (@tnot _ _ _ _ (@tval _ _ _ (@jisi _ _ _ _ .tuple _ _ _ (@jix _ _ _ _ _ _ (@jV _ 2 _ _ rfl (by walk_at "v")) (@ji _ _ _ _) (fun _ _=>rfl)) rfl z_isinstance rfl z_tuple boot_tuple (by decide) (by decide) (star1 rfl) (star1 rfl) (stars rfl)) (fun _=>rfl))) (@tor1 _ _ _ _ (@tnot _ _ _ _ (@tval _ _ _ (@jisi _ _ _ _ .tuple _ _ _ (@jix _ _ _ _ _ _ (@jV _ 2 _ _ rfl (by walk_at "v")) (@ji _ _ _ _) (fun _ _=>rfl)) rfl z_isinstance rfl z_tuple boot_tuple (by decide) (by decide) (star1 rfl) (star1 rfl) (stars rfl)) (fun _=>rfl))))))) (@js1 _ _ _ (@jret _ _ _ _ (@jb _ _ _ _))) (@js0 _)) (@js1 _ _ _ (@jfor _ _ _ _ _ _ _ _ PassesOwn.never rfl (@jiSeq _ _ _ _ (@jop _ _ _ _ _ _ _ _ b_addA (@jix _ _ _ _ _ _ (@jV _ 2 _ _ rfl (by walk_at "v")) (@ji _ _ _ _) (fun _ _=>rfl)) (@jix _ _ _ _ _ _ (@jV _ 2 _ _ rfl (by walk_at "v")) (@ji _ _ _ _) (fun _ _=>rfl)))) (@jg _ _ (3) _ Z24.nd rfl (Or.inl rfl) (by walk_at "f")) (@js1 _ _ _ (@jsif _ _ _ _ _ _ _ _ (@jw _ _ _ (@tor _ _ _ _ _ _ _ (@tnot _ _ _ _ (@tval _ _ _ (@jisi _ _ _ _ .int _ _ _ (@jV _ 3 _ _ rfl (by walk_at "v")) rfl z_isinstance rfl z_int boot_int (by decide) (by decide) (star1 rfl) (star1 rfl) (stars rfl)) (fun _=>rfl))) (@tor1 _ _ _ _ (@tval _ _ _ (@jisi _ _ _ _ .bool _ _ _ (@jV _ 3 _ _ rfl (by walk_at "v")) rfl z_isinstance rfl z_bool boot_bool (by decide) (by decide) (star1 rfl) (star1 rfl) (stars rfl)) (fun _=>rfl))))) (@js1 _ _ _ (@jret _ _ _ _ (@jb _ _ _ _))) (@js0 _))) (fun _=>rfl)))) (fun _=>rfl)) (@js1 _ _ _ (@jret _ _ _ _ (@jb _ _ _ _)))))) Z31)
abbrev Z17:Stmt:=top 33
theorem Z1l:FnScope ["_law_script", "_law_cell", "_law_boxes", "_law_one", "_law_other", "_law_due", "_law_handed", "_law_found", "_law_low_here"] ["_law_script"] (defScope Z17):=by walk_at "s"
theorem Z3k{f:Addr}{fd:FuncData} (F:Fun K "law" "law" Z17 f fd) (Z25:Cal P w K mg base 3 "_law_box" ["_law_cell", "_law_k"] Z15) (Z16:Cal P w K mg base 1 "_law_draw" ["_law_cell", "_law_k", "_law_many"] Z0K) (Z22:Cal P w K mg base 2 "_law_add" ["_law_one", "_law_other"] Z11) (Z1g:Cal P w K mg base 2 "_law_corners" ["_law_wide", "_law_high"] Z0v) (Z2d:Cal P w K mg base 2 "_law_both" ["_law_one", "_law_other"] Z1f) (Z0y:CalO P w K mg base 6 "both_of" ["one", "other"] Z02) (Z1D:Cal P w K mg base 1 "_law_alike" ["_law_found", "_law_due"] Z0N) (z_list:mg "list" = none):FnT P w K mg base 7 f fd ["_law_script"] lawSp :=
 fnT (W:=Z2X) F Z1l len_law (fun cdv A outer s H E hr =>
  (@jsc _ _ _ _ _ (@jfor _ _ _ _ _ _ _ _ PassesOwn.never rfl (@jiSeq _ _ _ _ (@jop _ _ _ _ _ _ _ _ b_cat (@jlst _ _ _ _ (@ja _ _ _ _ _ (@ji _ _ _ _) (@ja0 _) (star1 rfl))) (@jsl _ _ _ _ _ _ _ _ _ (@jV _ 0 _ _ rfl (by walk_at "v")) (@jo0 _) (@jo _ _ _ (@ji _ _ _ _))))) (@jg _ _ (1) _ Z1l.nd rfl (Or.inl rfl) (by walk_at "f")) (jbox (i:=2) (j:=8) (by decide) Z1l.nd rfl (Or.inl rfl) rfl (Or.inl rfl) (pv 2) (@ja _ _ _ _ _ (@jcallC _ _ _ _ _ _ _ _ _ _ Z25 (hr.mono (by omega)) rfl (@ja _ _ _ _ _ (@jV _ 1 _ _ rfl (by walk_at "v")) (@ja _ _ _ _ _ (@ji _ _ _ _) (@ja0 _) (star1 rfl)) (star1 rfl)) (by decide) (star1 rfl) (stars rfl)) (@ja _ _ _ _ _ (@jcallC _ _ _ _ _ _ _ _ _ _ Z25 (hr.mono (by omega)) rfl (@ja _ _ _ _ _ (@jV _ 1 _ _ rfl (by walk_at "v")) (@ja _ _ _ _ _ (@ji _ _ _ _) (@ja0 _) (star1 rfl)) (star1 rfl)) (by decide) (star1 rfl) (stars rfl)) (@ja0 _) (star1 rfl)) (star1 rfl)) (@ja _ _ _ _ _ (@jcallC _ _ _ _ _ _ _ _ _ _ Z25 (hr.mono (by omega)) rfl (@ja _ _ _ _ _ (@jV _ 1 _ _ rfl (by walk_at "v")) (@ja _ _ _ _ _ (@ji _ _ _ _) (@ja0 _) (star1 rfl)) (star1 rfl)) (by decide) (star1 rfl) (stars rfl)) (@ja _ _ _ _ _ (@jcallC _ _ _ _ _ _ _ _ _ _ Z25 (hr.mono (by omega)) rfl (@ja _ _ _ _ _ (@jV _ 1 _ _ rfl (by walk_at "v")) (@ja _ _ _ _ _ (@ji _ _ _ _) (@ja0 _) (star1 rfl)) (star1 rfl)) (by decide) (star1 rfl) (stars rfl)) (@ja0 _) (star1 rfl)) (star1 rfl)) (@tcmp _ _ _ _ _ _ _ _ (c_eq hr) (@jcallC _ _ _ _ _ _ _ _ _ _ Z16 (hr.mono (by omega)) rfl (@ja _ _ _ _ _ (@jV _ 1 _ _ rfl (by walk_at "v")) (@ja _ _ _ _ _ (@ji _ _ _ _) (@ja _ _ _ _ _ (@ji _ _ _ _) (@ja0 _) (star1 rfl)) (star1 rfl)) (star1 rfl)) (by decide) (star1 rfl) (stars rfl)) (@ji _ _ _ _) (nomark _)) (@jix _ _ _ _ _ _ (@jix _ _ _ _ _ _ (@jix _ _ _ _ _ _ (@jV _ 2 _ _ rfl (by walk_at "v")) (@ji _ _ _ _) (fun _ _=>rfl)) (@ji _ _ _ _) (fun _ _=>rfl)) (@ji _ _ _ _) (fun _ _=>rfl)) (@jtup _ _ _ _ _ (@ja _ _ _ _ _ (@jV _ 8 _ _ rfl (by walk_at "v")) (@ja _ _ _ _ _ (@jcallC _ _ _ _ _ _ _ _ _ _ Z22 (hr.mono (by omega)) rfl (@ja _ _ _ _ _ (@jV _ 8 _ _ rfl (by walk_at "v")) (@ja _ _ _ _ _ (@jtup _ _ _ _ _ (@ja _ _ _ _ _ (@ji _ _ _ _) (@ja _ _ _ _ _ (@ji _ _ _ _) (@ja0 _) (star1 rfl)) (star1 rfl))) (@ja0 _) (star1 rfl)) (star1 rfl)) (by decide) (star1 rfl) (stars rfl)) (@ja0 _) (star1 rfl)) (star1 rfl))) (@jsc _ _ _ _ _ (@jset _ _ _ _ (3) _ _ Z1l.nd rfl (Or.inl rfl) (@jcallC _ _ _ _ _ _ _ _ _ _ Z1g (hr.mono (by omega)) rfl (@ja _ _ _ _ _ (@jix _ _ _ _ _ _ (@jix _ _ _ _ _ _ (@jV _ 2 _ _ rfl (by walk_at "v")) (@ji _ _ _ _) (fun _ _=>rfl)) (@ji _ _ _ _) (fun _ _=>rfl)) (@ja _ _ _ _ _ (@jix _ _ _ _ _ _ (@jix _ _ _ _ _ _ (@jV _ 2 _ _ rfl (by walk_at "v")) (@ji _ _ _ _) (fun _ _=>rfl)) (@ji _ _ _ _) (fun _ _=>rfl)) (@ja0 _) (star1 rfl)) (star1 rfl)) (by decide) (star1 rfl) (stars rfl)) (by rfl) (by walk_at "f")) (@jsc _ _ _ _ _ (@jset _ _ _ _ (4) _ _ Z1l.nd rfl (Or.inl rfl) (@jcallC _ _ _ _ _ _ _ _ _ _ Z1g (hr.mono (by omega)) rfl (@ja _ _ _ _ _ (@jix _ _ _ _ _ _ (@jix _ _ _ _ _ _ (@jV _ 2 _ _ rfl (by walk_at "v")) (@ji _ _ _ _) (fun _ _=>rfl)) (@ji _ _ _ _) (fun _ _=>rfl)) (@ja _ _ _ _ _ (@jix _ _ _ _ _ _ (@jix _ _ _ _ _ _ (@jV _ 2 _ _ rfl (by walk_at "v")) (@ji _ _ _ _) (fun _ _=>rfl)) (@ji _ _ _ _) (fun _ _=>rfl)) (@ja0 _) (star1 rfl)) (star1 rfl)) (by decide) (star1 rfl) (stars rfl)) (by rfl) (by walk_at "f")) (@jsc _ _ _ _ _ (@jset _ _ _ _ (5) _ _ Z1l.nd rfl (Or.inl rfl) (@jcallC _ _ _ _ _ _ _ _ _ _ Z1g (hr.mono (by omega)) rfl (@ja _ _ _ _ _ (@jcallC _ _ _ _ _ _ _ _ _ _ Z2d (hr.mono (by omega)) rfl (@ja _ _ _ _ _ (@jix _ _ _ _ _ _ (@jix _ _ _ _ _ _ (@jV _ 2 _ _ rfl (by walk_at "v")) (@ji _ _ _ _) (fun _ _=>rfl)) (@ji _ _ _ _) (fun _ _=>rfl)) (@ja _ _ _ _ _ (@jix _ _ _ _ _ _ (@jix _ _ _ _ _ _ (@jV _ 2 _ _ rfl (by walk_at "v")) (@ji _ _ _ _) (fun _ _=>rfl)) (@ji _ _ _ _) (fun _ _=>rfl)) (@ja0 _) (star1 rfl)) (star1 rfl)) (by decide) (star1 rfl) (stars rfl)) (@ja _ _ _ _ _ (@jcallC _ _ _ _ _ _ _ _ _ _ Z2d (hr.mono (by omega)) rfl (@ja _ _ _ _ _ (@jix _ _ _ _ _ _ (@jix _ _ _ _ _ _ (@jV _ 2 _ _ rfl (by walk_at "v")) (@ji _ _ _ _) (fun _ _=>rfl)) (@ji _ _ _ _) (fun _ _=>rfl)) (@ja _ _ _ _ _ (@jix _ _ _ _ _ _ (@jix _ _ _ _ _ _ (@jV _ 2 _ _ rfl (by walk_at "v")) (@ji _ _ _ _) (fun _ _=>rfl)) (@ji _ _ _ _) (fun _ _=>rfl)) (@ja0 _) (star1 rfl)) (star1 rfl)) (by decide) (star1 rfl) (stars rfl)) (@ja0 _) (star1 rfl)) (star1 rfl)) (by decide) (star1 rfl) (stars rfl)) (by rfl) (by walk_at "f")) (@jsc _ _ _ _ _ (@jset _ _ _ _ (6) _ _ Z1l.nd rfl (Or.inl rfl) (@jlst _ _ _ _ (@ja _ _ _ _ _ (@jty _ _ _ _ _ _ _ _ _ ty_list rfl z_list boot_list (@ja _ _ _ _ _ (@jV _ 3 _ _ rfl (by walk_at "v")) (@ja0 _) (star1 rfl)) (by decide) (by decide) (star1 rfl) (stars rfl)) (@ja _ _ _ _ _ (@jty _ _ _ _ _ _ _ _ _ ty_list rfl z_list boot_list (@ja _ _ _ _ _ (@jV _ 4 _ _ rfl (by walk_at "v")) (@ja0 _) (star1 rfl)) (by decide) (by decide) (star1 rfl) (stars rfl)) (@ja0 _) (star1 rfl)) (star1 rfl))) (by rfl) (by walk_at "f")) (@jsc _ _ _ _ _ (@jsetO _ _ _ _ _ _ (7) _ _ _ _ _ _ _ Z1l.nd rfl (Or.inl rfl) Z0y (hr.mono (by omega)) rfl (@ja _ _ _ _ _ (@jix _ _ _ _ _ _ (@jV _ 6 _ _ rfl (by walk_at "v")) (@ji _ _ _ _) (fun _ _=>rfl)) (@ja _ _ _ _ _ (@jix _ _ _ _ _ _ (@jV _ 6 _ _ rfl (by walk_at "v")) (@ji _ _ _ _) (fun _ _=>rfl)) (@ja0 _) (star1 rfl)) (star1 rfl)) (by decide) (star1 rfl) (stars rfl) (by rfl) (by walk_at "f")) (@jsc _ _ _ _ _ (@jsif _ _ _ _ _ _ _ _ (@jfzT _ 7 _ _ (@jw _ _ _ (@tor _ _ _ _ _ _ _ (@tnot _ _ _ _ (@tval _ _ _ (@jcallC _ _ _ _ _ _ _ _ _ _ Z1D (hr.mono (by omega)) rfl (@ja _ _ _ _ _ (@jV _ 7 _ _ rfl (by walk_at "v")) (@ja _ _ _ _ _ (@jV _ 5 _ _ rfl (by walk_at "v")) (@ja0 _) (star1 rfl)) (star1 rfl)) (by decide) (star1 rfl) (stars rfl)) (fun _=>rfl))) (@tor _ _ _ _ _ _ _ (@tcmp _ _ _ _ _ _ _ _ (c_ne hr) (@jV _ 6 _ _ rfl (by walk_at "v")) (@jlst _ _ _ _ (@ja _ _ _ _ _ (@jV _ 3 _ _ rfl (by walk_at "v")) (@ja _ _ _ _ _ (@jV _ 4 _ _ rfl (by walk_at "v")) (@ja0 _) (star1 rfl)) (star1 rfl))) (nomark _)) (@tor1 _ _ _ _ (@tnot _ _ _ _ (@tval _ _ _ (@jcallC _ _ _ _ _ _ _ _ _ _ Z1D (hr.mono (by omega)) rfl (@ja _ _ _ _ _ (@jcallC _ _ _ _ _ _ _ _ _ _ (CalO.frz Z0y) (hr.mono (by omega)) rfl (@ja _ _ _ _ _ (@jV _ 4 _ _ rfl (by walk_at "v")) (@ja _ _ _ _ _ (@jV _ 3 _ _ rfl (by walk_at "v")) (@ja0 _) (star1 rfl)) (star1 rfl)) (by decide) (star1 rfl) (stars rfl)) (@ja _ _ _ _ _ (@jV _ 5 _ _ rfl (by walk_at "v")) (@ja0 _) (star1 rfl)) (star1 rfl)) (by decide) (star1 rfl) (stars rfl)) (fun _=>rfl)))))))) (@js1 _ _ _ (@jret _ _ _ _ (@jb _ _ _ _))) (@js0 _)) (@jsc _ _ _ _ _ (@japp _ _ _ _ _ _ _ _ _ (pv 7) (@jtup _ _ _ _ _ (@ja _ _ _ _ _ (@jtup _ _ _ _ _ (@ja _ _ _ _ _ (@ji _ _ _ _) (@ja _ _ _ _ _ (@ji _ _ _ _) (@ja0 _) (star1 rfl)) (star1 rfl))) (@ja _ _ _ _ _ (@jtup _ _ _ _ _ (@ja _ _ _ _ _ (@ji _ _ _ _) (@ja _ _ _ _ _ (@ji _ _ _ _) (@ja0 _) (star1 rfl)) (star1 rfl))) (@ja0 _) (star1 rfl)) (star1 rfl))) (by rfl) (by rfl) (by rfl) (by rfl) (by rfl) (by rfl)) (@jsc _ _ _ _ _ (@jsif _ _ _ _ _ _ _ _ (@tcmp _ _ _ _ _ _ _ _ (c_ne hr) (@jV _ 6 _ _ rfl (by walk_at "v")) (@jlst _ _ _ _ (@ja _ _ _ _ _ (@jV _ 3 _ _ rfl (by walk_at "v")) (@ja _ _ _ _ _ (@jV _ 4 _ _ rfl (by walk_at "v")) (@ja0 _) (star1 rfl)) (star1 rfl))) (nomark _)) (@js1 _ _ _ (@jret _ _ _ _ (@jb _ _ _ _))) (@js0 _)) (@jsc _ _ _ _ _ (@jsif _ _ _ _ _ _ _ _ (@jw _ _ _ (@tor _ _ _ _ _ _ _ (@tcmp _ _ _ _ _ _ _ _ (c_ne hr) (@jcallC _ _ _ _ _ _ _ _ _ _ (CalO.frz Z0y) (hr.mono (by omega)) rfl (@ja _ _ _ _ _ (@jV _ 3 _ _ rfl (by walk_at "v")) (@ja _ _ _ _ _ (@jV _ 4 _ _ rfl (by walk_at "v")) (@ja0 _) (star1 rfl)) (star1 rfl)) (by decide) (star1 rfl) (stars rfl)) (@jV _ 5 _ _ rfl (by walk_at "v")) (nomark _)) (@tor1 _ _ _ _ (@tnot _ _ _ _ (@tval _ _ _ (@jcallC _ _ _ _ _ _ _ _ _ _ Z1D (hr.mono (by omega)) rfl (@ja _ _ _ _ _ (@jcallC _ _ _ _ _ _ _ _ _ _ (CalO.frz Z0y) (hr.mono (by omega)) rfl (@ja _ _ _ _ _ (@jV _ 3 _ _ rfl (by walk_at "v")) (@ja _ _ _ _ _ (@jty _ _ _ _ _ _ _ _ _ ty_list rfl z_list boot_list (@ja _ _ _ _ _ (@jV _ 3 _ _ rfl (by walk_at "v")) (@ja0 _) (star1 rfl)) (by decide) (by decide) (star1 rfl) (stars rfl)) (@ja0 _) (star1 rfl)) (star1 rfl)) (by decide) (star1 rfl) (stars rfl)) (@ja _ _ _ _ _ (@jV _ 3 _ _ rfl (by walk_at "v")) (@ja0 _) (star1 rfl)) (star1 rfl)) (by decide) (star1 rfl) (stars rfl)) (fun _=>rfl)))))) (@js1 _ _ _ (@jret _ _ _ _ (@jb _ _ _ _))) (@js0 _)) (@js1 _ _ _ (@jsif _ _ _ _ _ _ _ _ (@jw _ _ _ (@tor _ _ _ _ _ _ _ (@tcmp _ _ _ _ _ _ _ _ (c_ne hr) (@jcallC _ _ _ _ _ _ _ _ _ _ (CalO.frz Z0y) (hr.mono (by omega)) rfl (@ja _ _ _ _ _ (@jV _ 3 _ _ rfl (by walk_at "v")) (@ja _ _ _ _ _ (@jlst _ _ _ _ (@ja0 _)) (@ja0 _) (star1 rfl)) (star1 rfl)) (by decide) (star1 rfl) (stars rfl)) (@jlst _ _ _ _ (@ja0 _)) (nomark _)) (@tor1 _ _ _ _ (@tcmp _ _ _ _ _ _ _ _ (c_ne hr) (@jcallC _ _ _ _ _ _ _ _ _ _ (CalO.frz Z0y) (hr.mono (by omega)) rfl (@ja _ _ _ _ _ (@jlst _ _ _ _ (@ja0 _)) (@ja _ _ _ _ _ (@jV _ 4 _ _ rfl (by walk_at "v")) (@ja0 _) (star1 rfl)) (star1 rfl)) (by decide) (star1 rfl) (stars rfl)) (@jlst _ _ _ _ (@ja0 _)) (nomark _))))) (@js1 _ _ _ (@jret _ _ _ _ (@jb _ _ _ _))) (@js0 _))))))))))))) (fun _=>rfl)) (@js1 _ _ _ (@jret _ _ _ _ (@jcmp _ _ _ _ _ _ _ _ (c_eq hr) (@jcallC _ _ _ _ _ _ _ _ _ _ (CalO.frz Z0y) (hr.mono (by omega)) rfl (@ja _ _ _ _ _ (@jlst _ _ _ _ (@ja0 _)) (@ja _ _ _ _ _ (@jlst _ _ _ _ (@ja0 _)) (@ja0 _) (star1 rfl)) (star1 rfl)) (by decide) (star1 rfl) (stars rfl)) (@jlst _ _ _ _ (@ja0 _)) (nomark _)))))) Z3f
end
theorem all_mk{l:PySem.W.OpenLaw}{w:World}{K:PySem.W.Frag}{h:Heap}{mg:Str->Option Value}{fa f0 f1 f2 f3 f4 f5 f6 f7 f8 f9 f10 f11 f12 f13 f14 f15 f16 f17 f18 f19 f20 f21 f22 f23:Addr}(X:K.In h)(G:h.Ns mainGlobals mg) (hfa:mg "law" = some (.ref fa))
  {od0 an0 od1 an1 od2 an2 od3 an3 od4 an4 od5 an5 od6 an6 od7 an7 od8 an8 od9 an9 od10 an10 od11 an11 od12 an12 od13 an13 od14 an14 od15 an15 od16 an16 od17 an17 od18 an18 od19 an19 od20 an20 od21 an21 od22 an22 od23 an23:Option Addr} {sl0 sl1 sl2 sl3 sl4 sl5 sl6 sl7 sl8 sl9 sl10 sl11 sl12 sl13 sl14 sl15 sl16 sl17 sl18 sl19 sl20 sl21 sl22 sl23:Array (Option Value)} {oc0 kV0 dc0 pm0 cd0 ct0 oc1 kV1 dc1 pm1 cd1 ct1 oc2 kV2 dc2 pm2 cd2 ct2 oc3 kV3 dc3 pm3 cd3 ct3 oc4 kV4 dc4 pm4 cd4 ct4 oc5 kV5 dc5 pm5 cd5 ct5 oc6 kV6 dc6 pm6 cd6 ct6 oc7 kV7 dc7 pm7 cd7 ct7 oc8 kV8 dc8 pm8 cd8 ct8 oc9 kV9 dc9 pm9 cd9 ct9 oc10 kV10 dc10 pm10 cd10 ct10 oc11 kV11 dc11 pm11 cd11 ct11 oc12 kV12 dc12 pm12 cd12 ct12 oc13 kV13 dc13 pm13 cd13 ct13 oc14 kV14 dc14 pm14 cd14 ct14 oc15 kV15 dc15 pm15 cd15 ct15 oc16 kV16 dc16 pm16 cd16 ct16 oc17 kV17 dc17 pm17 cd17 ct17 oc18 kV18 dc18 pm18 cd18 ct18 oc19 kV19 dc19 pm19 cd19 ct19 oc20 kV20 dc20 pm20 cd20 ct20 oc21 kV21 dc21 pm21 cd21 ct21 oc22 kV22 dc22 pm22 cd22 ct22 oc23 kV23 dc23 pm23 cd23 ct23:Value}
  (a0:PySem.W.nsIn K mainGlobals "_law_draw" = some (some (.ref f0))) (l0:K.lookup f0=some ⟨oc0,od0,.func (PySem.W.fnOf "_law_draw" "_law_draw" (defArgs Z1o) (defBody Z1o) (defScope Z1o) .none kV0 dc0 pm0 an0 cd0 ct0),sl0⟩) (c0:PySem.W.codeIn K cd0 "_law_draw" = true) (k0:PySem.W.keepIn K (.ref f0)=true)
  (a1:PySem.W.nsIn K mainGlobals "_law_low" = some (some (.ref f1))) (l1:K.lookup f1=some ⟨oc1,od1,.func (PySem.W.fnOf "_law_low" "_law_low" (defArgs Z1F) (defBody Z1F) (defScope Z1F) .none kV1 dc1 pm1 an1 cd1 ct1),sl1⟩) (c1:PySem.W.codeIn K cd1 "_law_low" = true) (k1:PySem.W.keepIn K (.ref f1)=true)
  (a2:PySem.W.nsIn K mainGlobals "_law_add" = some (some (.ref f2))) (l2:K.lookup f2=some ⟨oc2,od2,.func (PySem.W.fnOf "_law_add" "_law_add" (defArgs Z1G) (defBody Z1G) (defScope Z1G) .none kV2 dc2 pm2 an2 cd2 ct2),sl2⟩) (c2:PySem.W.codeIn K cd2 "_law_add" = true) (k2:PySem.W.keepIn K (.ref f2)=true)
  (a3:PySem.W.nsIn K mainGlobals "_law_box" = some (some (.ref f3))) (l3:K.lookup f3=some ⟨oc3,od3,.func (PySem.W.fnOf "_law_box" "_law_box" (defArgs Z1H) (defBody Z1H) (defScope Z1H) .none kV3 dc3 pm3 an3 cd3 ct3),sl3⟩) (c3:PySem.W.codeIn K cd3 "_law_box" = true) (k3:PySem.W.keepIn K (.ref f3)=true)
  (a4:PySem.W.nsIn K mainGlobals "_law_under" = some (some (.ref f4))) (l4:K.lookup f4=some ⟨oc4,od4,.func (PySem.W.fnOf "_law_under" "_law_under" (defArgs Z19) (defBody Z19) (defScope Z19) .none kV4 dc4 pm4 an4 cd4 ct4),sl4⟩) (c4:PySem.W.codeIn K cd4 "_law_under" = true) (k4:PySem.W.keepIn K (.ref f4)=true)
  (a5:PySem.W.nsIn K mainGlobals "_law_corners" = some (some (.ref f5))) (l5:K.lookup f5=some ⟨oc5,od5,.func (PySem.W.fnOf "_law_corners" "_law_corners" (defArgs Z0O) (defBody Z0O) (defScope Z0O) .none kV5 dc5 pm5 an5 cd5 ct5),sl5⟩) (c5:PySem.W.codeIn K cd5 "_law_corners" = true) (k5:PySem.W.keepIn K (.ref f5)=true)
  (a6:PySem.W.nsIn K mainGlobals "_law_both" = some (some (.ref f6))) (l6:K.lookup f6=some ⟨oc6,od6,.func (PySem.W.fnOf "_law_both" "_law_both" (defArgs Z1q) (defBody Z1q) (defScope Z1q) .none kV6 dc6 pm6 an6 cd6 ct6),sl6⟩) (c6:PySem.W.codeIn K cd6 "_law_both" = true) (k6:PySem.W.keepIn K (.ref f6)=true)
  (a7:PySem.W.nsIn K mainGlobals "is_whole" = some (some (.ref f7))) (l7:K.lookup f7=some ⟨oc7,od7,.func (PySem.W.fnOf "is_whole" "is_whole" (defArgs Z0C) (defBody Z0C) (defScope Z0C) .none kV7 dc7 pm7 an7 cd7 ct7),sl7⟩) (c7:PySem.W.codeIn K cd7 "is_whole" = true) (k7:PySem.W.keepIn K (.ref f7)=true)
  (a8:PySem.W.nsIn K mainGlobals "greatest_factor" = some (some (.ref f8))) (l8:K.lookup f8=some ⟨oc8,od8,.func (PySem.W.fnOf "greatest_factor" "greatest_factor" (defArgs Z08) (defBody Z08) (defScope Z08) .none kV8 dc8 pm8 an8 cd8 ct8),sl8⟩) (c8:PySem.W.codeIn K cd8 "greatest_factor" = true) (k8:PySem.W.keepIn K (.ref f8)=true)
  (a9:PySem.W.nsIn K mainGlobals "ratio_of" = some (some (.ref f9))) (l9:K.lookup f9=some ⟨oc9,od9,.func (PySem.W.fnOf "ratio_of" "ratio_of" (defArgs Z0D) (defBody Z0D) (defScope Z0D) .none kV9 dc9 pm9 an9 cd9 ct9),sl9⟩) (c9:PySem.W.codeIn K cd9 "ratio_of" = true) (k9:PySem.W.keepIn K (.ref f9)=true)
  (a10:PySem.W.nsIn K mainGlobals "ratio_less" = some (some (.ref f10))) (l10:K.lookup f10=some ⟨oc10,od10,.func (PySem.W.fnOf "ratio_less" "ratio_less" (defArgs Z0s) (defBody Z0s) (defScope Z0s) .none kV10 dc10 pm10 an10 cd10 ct10),sl10⟩) (c10:PySem.W.codeIn K cd10 "ratio_less" = true) (k10:PySem.W.keepIn K (.ref f10)=true)
  (a11:PySem.W.nsIn K mainGlobals "ratio_times" = some (some (.ref f11))) (l11:K.lookup f11=some ⟨oc11,od11,.func (PySem.W.fnOf "ratio_times" "ratio_times" (defArgs Z0l) (defBody Z0l) (defScope Z0l) .none kV11 dc11 pm11 an11 cd11 ct11),sl11⟩) (c11:PySem.W.codeIn K cd11 "ratio_times" = true) (k11:PySem.W.keepIn K (.ref f11)=true)
  (a12:PySem.W.nsIn K mainGlobals "turn_of" = some (some (.ref f12))) (l12:K.lookup f12=some ⟨oc12,od12,.func (PySem.W.fnOf "turn_of" "turn_of" (defArgs Z0w) (defBody Z0w) (defScope Z0w) .none kV12 dc12 pm12 an12 cd12 ct12),sl12⟩) (c12:PySem.W.codeIn K cd12 "turn_of" = true) (k12:PySem.W.keepIn K (.ref f12)=true)
  (a13:PySem.W.nsIn K mainGlobals "ratio_by" = some (some (.ref f13))) (l13:K.lookup f13=some ⟨oc13,od13,.func (PySem.W.fnOf "ratio_by" "ratio_by" (defArgs Z0E) (defBody Z0E) (defScope Z0E) .none kV13 dc13 pm13 an13 cd13 ct13),sl13⟩) (c13:PySem.W.codeIn K cd13 "ratio_by" = true) (k13:PySem.W.keepIn K (.ref f13)=true)
  (a14:PySem.W.nsIn K mainGlobals "ratio_sum" = some (some (.ref f14))) (l14:K.lookup f14=some ⟨oc14,od14,.func (PySem.W.fnOf "ratio_sum" "ratio_sum" (defArgs Z0z) (defBody Z0z) (defScope Z0z) .none kV14 dc14 pm14 an14 cd14 ct14),sl14⟩) (c14:PySem.W.codeIn K cd14 "ratio_sum" = true) (k14:PySem.W.keepIn K (.ref f14)=true)
  (a15:PySem.W.nsIn K mainGlobals "place_between" = some (some (.ref f15))) (l15:K.lookup f15=some ⟨oc15,od15,.func (PySem.W.fnOf "place_between" "place_between" (defArgs Z05) (defBody Z05) (defScope Z05) .none kV15 dc15 pm15 an15 cd15 ct15),sl15⟩) (c15:PySem.W.codeIn K cd15 "place_between" = true) (k15:PySem.W.keepIn K (.ref f15)=true)
  (a16:PySem.W.nsIn K mainGlobals "cut_at_nought" = some (some (.ref f16))) (l16:K.lookup f16=some ⟨oc16,od16,.func (PySem.W.fnOf "cut_at_nought" "cut_at_nought" (defArgs Z0e) (defBody Z0e) (defScope Z0e) .none kV16 dc16 pm16 an16 cd16 ct16),sl16⟩) (c16:PySem.W.codeIn K cd16 "cut_at_nought" = true) (k16:PySem.W.keepIn K (.ref f16)=true)
  (a17:PySem.W.nsIn K mainGlobals "is_under" = some (some (.ref f17))) (l17:K.lookup f17=some ⟨oc17,od17,.func (PySem.W.fnOf "is_under" "is_under" (defArgs Z0F) (defBody Z0F) (defScope Z0F) .none kV17 dc17 pm17 an17 cd17 ct17),sl17⟩) (c17:PySem.W.codeIn K cd17 "is_under" = true) (k17:PySem.W.keepIn K (.ref f17)=true)
  (a18:PySem.W.nsIn K mainGlobals "is_lower_place" = some (some (.ref f18))) (l18:K.lookup f18=some ⟨oc18,od18,.func (PySem.W.fnOf "is_lower_place" "is_lower_place" (defArgs Z0d) (defBody Z0d) (defScope Z0d) .none kV18 dc18 pm18 an18 cd18 ct18),sl18⟩) (c18:PySem.W.codeIn K cd18 "is_lower_place" = true) (k18:PySem.W.keepIn K (.ref f18)=true)
  (a19:PySem.W.nsIn K mainGlobals "begun_lowest" = some (some (.ref f19))) (l19:K.lookup f19=some ⟨oc19,od19,.func (PySem.W.fnOf "begun_lowest" "begun_lowest" (defArgs Z0g) (defBody Z0g) (defScope Z0g) .none kV19 dc19 pm19 an19 cd19 ct19),sl19⟩) (c19:PySem.W.codeIn K cd19 "begun_lowest" = true) (k19:PySem.W.keepIn K (.ref f19)=true)
  (a20:PySem.W.nsIn K mainGlobals "part_round" = some (some (.ref f20))) (l20:K.lookup f20=some ⟨oc20,od20,.func (PySem.W.fnOf "part_round" "part_round" (defArgs Z0k) (defBody Z0k) (defScope Z0k) .none kV20 dc20 pm20 an20 cd20 ct20),sl20⟩) (c20:PySem.W.codeIn K cd20 "part_round" = true) (k20:PySem.W.keepIn K (.ref f20)=true)
  (a21:PySem.W.nsIn K mainGlobals "both_of" = some (some (.ref f21))) (l21:K.lookup f21=some ⟨oc21,od21,.func (PySem.W.fnOf "both_of" "both_of" (defArgs Z0A) (defBody Z0A) (defScope Z0A) .none kV21 dc21 pm21 an21 cd21 ct21),sl21⟩) (c21:PySem.W.codeIn K cd21 "both_of" = true) (k21:PySem.W.keepIn K (.ref f21)=true)
  (a22:PySem.W.nsIn K mainGlobals "_law_alike" = some (some (.ref f22))) (l22:K.lookup f22=some ⟨oc22,od22,.func (PySem.W.fnOf "_law_alike" "_law_alike" (defArgs Z1a) (defBody Z1a) (defScope Z1a) .none kV22 dc22 pm22 an22 cd22 ct22),sl22⟩) (c22:PySem.W.codeIn K cd22 "_law_alike" = true) (k22:PySem.W.keepIn K (.ref f22)=true)
  (a23:PySem.W.nsIn K mainGlobals "law" = some (some (.ref f23))) (l23:K.lookup f23=some ⟨oc23,od23,.func (PySem.W.fnOf "law" "law" (defArgs Z17) (defBody Z17) (defScope Z17) .none kV23 dc23 pm23 an23 cd23 ct23),sl23⟩) (c23:PySem.W.codeIn K cd23 "law" = true) (k23:PySem.W.keepIn K (.ref f23)=true)
  (z0:PySem.W.nsIn K mainGlobals "range" = some none)
  (z1:PySem.W.nsIn K mainGlobals "abs" = some none)
  (z2:PySem.W.nsIn K mainGlobals "isinstance" = some none)
  (z3:PySem.W.nsIn K mainGlobals "int" = some none)
  (z4:PySem.W.nsIn K mainGlobals "bool" = some none)
  (z5:PySem.W.nsIn K mainGlobals "tuple" = some none)
  (z6:PySem.W.nsIn K mainGlobals "enumerate" = some none)
  (z7:PySem.W.nsIn K mainGlobals "len" = some none)
  (z8:PySem.W.nsIn K mainGlobals "list" = some none)
  : ∃fd:FuncData,(∀(s:Shared)(v:Value),BindsTo s fd ⟨[v],[]⟩ [("_law_script", v)])/\∀base:Heap,K.In base->base.Ns mainGlobals mg->FnOk l.prog w K mg base CX0 7 fa fd ["_law_script"] (spT K 1 lawSp):=by
 have e:=hfa.symm.trans (PySem.W.mg_of X G a23)
 cases e
 have F0:=fun_mk (st:=Z1o) l0 c0 k0
 have F1:=fun_mk (st:=Z1F) l1 c1 k1
 have F2:=fun_mk (st:=Z1G) l2 c2 k2
 have F3:=fun_mk (st:=Z1H) l3 c3 k3
 have F4:=fun_mk (st:=Z19) l4 c4 k4
 have F5:=fun_mk (st:=Z0O) l5 c5 k5
 have F6:=fun_mk (st:=Z1q) l6 c6 k6
 have F7:=fun_mk (st:=Z0C) l7 c7 k7
 have F8:=fun_mk (st:=Z08) l8 c8 k8
 have F9:=fun_mk (st:=Z0D) l9 c9 k9
 have F10:=fun_mk (st:=Z0s) l10 c10 k10
 have F11:=fun_mk (st:=Z0l) l11 c11 k11
 have F12:=fun_mk (st:=Z0w) l12 c12 k12
 have F13:=fun_mk (st:=Z0E) l13 c13 k13
 have F14:=fun_mk (st:=Z0z) l14 c14 k14
 have F15:=fun_mk (st:=Z05) l15 c15 k15
 have F16:=fun_mk (st:=Z0e) l16 c16 k16
 have F17:=fun_mk (st:=Z0F) l17 c17 k17
 have F18:=fun_mk (st:=Z0d) l18 c18 k18
 have F19:=fun_mk (st:=Z0g) l19 c19 k19
 have F20:=fun_mk (st:=Z0k) l20 c20 k20
 have F21:=fun_mk (st:=Z0A) l21 c21 k21
 have F22:=fun_mk (st:=Z1a) l22 c22 k22
 have F23:=fun_mk (st:=Z17) l23 c23 k23
 have z_range:=PySem.W.mg_none_of X G z0
 have z_abs:=PySem.W.mg_none_of X G z1
 have z_isinstance:=PySem.W.mg_none_of X G z2
 have z_int:=PySem.W.mg_none_of X G z3
 have z_bool:=PySem.W.mg_none_of X G z4
 have z_tuple:=PySem.W.mg_none_of X G z5
 have z_enumerate:=PySem.W.mg_none_of X G z6
 have z_len:=PySem.W.mg_none_of X G z7
 have z_list:=PySem.W.mg_none_of X G z8
 refine⟨PySem.W.fnOf "law" "law" (defArgs Z17) (defBody Z17) (defScope Z17) .none kV23 dc23 pm23 an23 cd23 ct23,fun s v=>.of_eq rfl,fun base _ _=>?_⟩
 have Z16:=Z3a (P:=l.prog) (w:=w) (base:=base) F0 (PySem.W.mg_of X G a0) z_range
 have Z1Q:=Z3g (P:=l.prog) (w:=w) (base:=base) F1 (PySem.W.mg_of X G a1) z_abs
 have Z22:=Z3i (P:=l.prog) (w:=w) (base:=base) F2 (PySem.W.mg_of X G a2) Z1Q
 have Z25:=Z3j (P:=l.prog) (w:=w) (base:=base) F3 (PySem.W.mg_of X G a3) Z16 Z1Q Z22
 have Z12:=Z33 (P:=l.prog) (w:=w) (base:=base) F4 (PySem.W.mg_of X G a4)
 have Z1g:=Z2P (P:=l.prog) (w:=w) (base:=base) F5 (PySem.W.mg_of X G a5) Z12
 have Z2d:=Z3b (P:=l.prog) (w:=w) (base:=base) F6 (PySem.W.mg_of X G a6) Z12
 have Z1j:=Z2E (P:=l.prog) (w:=w) (base:=base) F7 (PySem.W.mg_of X G a7) z_isinstance z_int z_bool
 have Z0M:=Z1K (P:=l.prog) (w:=w) (base:=base) F8 (PySem.W.mg_of X G a8) z_abs
 have Z0a:=Z2F (P:=l.prog) (w:=w) (base:=base) F9 (PySem.W.mg_of X G a9) Z1j Z0M
 have Z03:=Z2k (P:=l.prog) (w:=w) (base:=base) F10 (PySem.W.mg_of X G a10) Z0a
 have Z0j:=Z2b (P:=l.prog) (w:=w) (base:=base) F11 (PySem.W.mg_of X G a11) Z0a
 have Z0X:=Z2Q (P:=l.prog) (w:=w) (base:=base) F12 (PySem.W.mg_of X G a12) Z03 Z0j z_range
 have Z1C:=Z2H (P:=l.prog) (w:=w) (base:=base) F13 (PySem.W.mg_of X G a13) Z0a
 have Z1u:=Z2s (P:=l.prog) (w:=w) (base:=base) F14 (PySem.W.mg_of X G a14) Z0a
 have Z0W:=Z1Y (P:=l.prog) (w:=w) (base:=base) F15 (PySem.W.mg_of X G a15) Z03 Z0j Z1u z_range z_tuple
 have Z0Y:=Z1Z (P:=l.prog) (w:=w) (base:=base) F16 (PySem.W.mg_of X G a16) Z03 Z1C Z0W z_enumerate
 have Z1k:=Z2J (P:=l.prog) (w:=w) (base:=base) F17 (PySem.W.mg_of X G a17)
 have Z0S:=Z1S (P:=l.prog) (w:=w) (base:=base) F18 (PySem.W.mg_of X G a18) Z1k
 have Z14:=Z23 (P:=l.prog) (w:=w) (base:=base) F19 (PySem.W.mg_of X G a19) Z0S z_enumerate
 have Z1n:=Z2l (P:=l.prog) (w:=w) (base:=base) F20 (PySem.W.mg_of X G a20) Z0X Z14 z_enumerate z_len
 have Z0y:=Z2R (P:=l.prog) (w:=w) (base:=base) F21 (PySem.W.mg_of X G a21) Z0X Z0Y Z1n z_enumerate
 have Z1D:=Z34 (P:=l.prog) (w:=w) (base:=base) F22 (PySem.W.mg_of X G a22) z_isinstance z_list z_tuple z_int z_bool
 exact(Z3k (P:=l.prog) (w:=w) (base:=base) F23 Z25 Z16 Z22 Z1g Z2d Z0y Z1D z_list).ok
end TL
open PySem PySem.W PyProof.Rows
def PySem.W.Fast.tw17789927617373867278:Nat:=0
def PySem.W.Fast.tw11003225784993795787:Nat:=0
def PySem.W.Fast.tw17791152649522483957:Nat:=0
def PySem.W.Fast.tw6068549206067340194:Nat:=0
def PySem.W.Fast.tw17939069197620321405:Nat:=0
def PySem.W.Fast.tw604070095961557910:Nat:=0
def PySem.W.Fast.tw13518793990843805639:Nat:=0
def PySem.W.Fast.tw17539022238042553461:Nat:=0
def PySem.W.Fast.tw9708624013762636993:Nat:=0
def PySem.W.Fast.tw774171828072979629:Nat:=0
def PySem.W.Fast.tw7027823383709601890:Nat:=0
def PySem.W.Fast.tw17954890067410807874:Nat:=0
def PySem.W.Fast.tw11455859306915181805:Nat:=0
def PySem.W.Fast.tw5186094570794034136:Nat:=0
def PySem.W.Fast.tw13650782952087175648:Nat:=0
def PySem.W.Fast.tw11031820299632762358:Nat:=0
def PySem.W.Fast.tw5914674945428482032:Nat:=0
def PySem.W.Fast.tw5722297331714431291:Nat:=0
def PySem.W.Fast.tw11255388243113486344:Nat:=0
def PySem.W.Fast.tw2614987070361890911:Nat:=0
def PySem.W.Fast.tw6102328118511491155:Nat:=0
def PySem.W.Fast.tw12490152252607930328:Nat:=0
def PySem.W.Fast.tw7621011914087074490:Nat:=0
def PySem.W.Fast.tw15138074639955399760:Nat:=0
def PySem.W.Fast.tw9420466298470071686:Nat:=0
def PySem.W.Fast.tw3989314407979710162:Nat:=0
def PySem.W.Fast.tw17253690127234728342:Nat:=0
def PySem.W.Fast.tw8715554353295320621:Nat:=0
def PySem.W.Fast.tw2485804740618439192:Nat:=0
def PySem.W.Fast.tw16419963109193679623:Nat:=0
def PySem.W.Fast.tw1624947644411346159:Nat:=0
def PySem.W.Fast.tw8102699014033895355:Nat:=0
def PySem.W.Fast.tw10890218223377115798:Nat:=0
def PySem.W.Fast.tw2173733749383386240:Nat:=0
set_option maxRecDepth 100000 in
set_option maxHeartbeats 0 in
theorem PySem.Challenge.cw_dialyard_k72_boxes_together_holds : PySem.Challenge.rw_dialyard_k72_boxes_together.Holds := by
 w_on;o_law;k_head;(case hw=>w_witness2)
 k_fill
 refine TL.walk (l:=PySem.Challenge.rw_dialyard_k72_boxes_together) (x := "_law_script") (k:=7) rfl rfl ⟨rfl,by decide,by decide⟩ (fun w h Y=>PySem.W.kIn_of Y) ?F
 case F =>
  intro w mg fa h KX G hmg
  refine' TL.all_mk KX G hmg ?a0 ?l0 ?c0 ?k0 ?a1 ?l1 ?c1 ?k1 ?a2 ?l2 ?c2 ?k2 ?a3 ?l3 ?c3 ?k3 ?a4 ?l4 ?c4 ?k4 ?a5 ?l5 ?c5 ?k5 ?a6 ?l6 ?c6 ?k6 ?a7 ?l7 ?c7 ?k7 ?a8 ?l8 ?c8 ?k8 ?a9 ?l9 ?c9 ?k9 ?a10 ?l10 ?c10 ?k10 ?a11 ?l11 ?c11 ?k11 ?a12 ?l12 ?c12 ?k12 ?a13 ?l13 ?c13 ?k13 ?a14 ?l14 ?c14 ?k14 ?a15 ?l15 ?c15 ?k15 ?a16 ?l16 ?c16 ?k16 ?a17 ?l17 ?c17 ?k17 ?a18 ?l18 ?c18 ?k18 ?a19 ?l19 ?c19 ?k19 ?a20 ?l20 ?c20 ?k20 ?a21 ?l21 ?c21 ?k21 ?a22 ?l22 ?c22 ?k22 ?a23 ?l23 ?c23 ?k23 ?z0 ?z1 ?z2 ?z3 ?z4 ?z5 ?z6 ?z7 ?z8
  (case a0=>k_is)
  (case l0=>k_is)
  (case c0=>k_is)
  (case k0=>k_is)
  (case a1=>k_is)
  (case l1=>k_is)
  (case c1=>k_is)
  (case k1=>k_is)
  (case a2=>k_is)
  (case l2=>k_is)
  (case c2=>k_is)
  (case k2=>k_is)
  (case a3=>k_is)
  (case l3=>k_is)
  (case c3=>k_is)
  (case k3=>k_is)
  (case a4=>k_is)
  (case l4=>k_is)
  (case c4=>k_is)
  (case k4=>k_is)
  (case a5=>k_is)
  (case l5=>k_is)
  (case c5=>k_is)
  (case k5=>k_is)
  (case a6=>k_is)
  (case l6=>k_is)
  (case c6=>k_is)
  (case k6=>k_is)
  (case a7=>k_is)
  (case l7=>k_is)
  (case c7=>k_is)
  (case k7=>k_is)
  (case a8=>k_is)
  (case l8=>k_is)
  (case c8=>k_is)
  (case k8=>k_is)
  (case a9=>k_is)
  (case l9=>k_is)
  (case c9=>k_is)
  (case k9=>k_is)
  (case a10=>k_is)
  (case l10=>k_is)
  (case c10=>k_is)
  (case k10=>k_is)
  (case a11=>k_is)
  (case l11=>k_is)
  (case c11=>k_is)
  (case k11=>k_is)
  (case a12=>k_is)
  (case l12=>k_is)
  (case c12=>k_is)
  (case k12=>k_is)
  (case a13=>k_is)
  (case l13=>k_is)
  (case c13=>k_is)
  (case k13=>k_is)
  (case a14=>k_is)
  (case l14=>k_is)
  (case c14=>k_is)
  (case k14=>k_is)
  (case a15=>k_is)
  (case l15=>k_is)
  (case c15=>k_is)
  (case k15=>k_is)
  (case a16=>k_is)
  (case l16=>k_is)
  (case c16=>k_is)
  (case k16=>k_is)
  (case a17=>k_is)
  (case l17=>k_is)
  (case c17=>k_is)
  (case k17=>k_is)
  (case a18=>k_is)
  (case l18=>k_is)
  (case c18=>k_is)
  (case k18=>k_is)
  (case a19=>k_is)
  (case l19=>k_is)
  (case c19=>k_is)
  (case k19=>k_is)
  (case a20=>k_is)
  (case l20=>k_is)
  (case c20=>k_is)
  (case k20=>k_is)
  (case a21=>k_is)
  (case l21=>k_is)
  (case c21=>k_is)
  (case k21=>k_is)
  (case a22=>k_is)
  (case l22=>k_is)
  (case c22=>k_is)
  (case k22=>k_is)
  (case a23=>k_is)
  (case l23=>k_is)
  (case c23=>k_is)
  (case k23=>k_is)
  (case z0=>k_is)
  (case z1=>k_is)
  (case z2=>k_is)
  (case z3=>k_is)
  (case z4=>k_is)
  (case z5=>k_is)
  (case z6=>k_is)
  (case z7=>k_is)
  (case z8=>k_is)
