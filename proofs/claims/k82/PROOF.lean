import PyProof.Rows.All
import Wide.All
import OpenK.AllK
import Wide.FinOn
import Lean
import PyProof.EqAt
import PyProof.EqKinds
import PyProof.TupleCall
import PySem.Challenge.RW_dialyard_k82_moved_and_greater
set_option Elab.async false
set_option linter.all false
set_option maxRecDepth 100000
set_option maxHeartbeats 4000000
namespace L2
open PySem PySem.Spec PyProof.Rows
abbrev Key:=Sum Int Str
def keyIs:Key->Value->Bool
 | .inl k,v=>Value.isInt k v
 | .inr x,v=>Value.isStrOf x v
def keyH(w:World):Key->Int
 | .inl k=>hashInt k
 | .inr x=>hashStr w x
theorem keyIs_shape:∀{k:Key}{v:Value},keyIs k v=true->(∃i t,k=Sum.inl i/\v=Value.int i t)∨(∃x t,k=Sum.inr x/\v=Value.str x t)
 | .inl i,v,h=>by
  obtain⟨t,e⟩:=Value.isInt_shape (k:=i) (v:=v) h
  exact .inl ⟨i,t,rfl,e⟩
 | .inr x,v,h=>by
  obtain⟨t,e⟩:=Value.isStrOf_shape (x:=x) (v:=v) h
  exact .inr ⟨x,t,rfl,e⟩
theorem key_ll(a b:Int):decide ((Sum.inl a:Key)=Sum.inl b)=(a==b):=by
 by_cases e:a=b
 ·subst e;simp
 ·have h:¬ (Sum.inl a:Key)=Sum.inl b:=fun q=>e (Sum.inl.inj q)
  rw[decide_eq_false h]
  exact(beq_eq_false_iff_ne.mpr e).symm
theorem key_rr(a b:Str):decide ((Sum.inr a:Key)=Sum.inr b)=decide (a=b):=by
 by_cases e:a=b
 ·subst e;simp
 ·have h:¬ (Sum.inr a:Key)=Sum.inr b:=fun q=>e (Sum.inr.inj q)
  rw[decide_eq_false h,decide_eq_false e]
theorem key_lr(a:Int)(b:Str):decide ((Sum.inl a:Key)=Sum.inr b)=false:=decide_eq_false (fun q=>nomatch q)
theorem key_rl(a:Str)(b:Int):decide ((Sum.inr a:Key)=Sum.inl b)=false:=decide_eq_false (fun q=>nomatch q)
def mixKind(prog:Program)(w:World):PySem.KeyKind prog w Key where
 is:=keyIs
 hash:=keyH w
 inj:=fun v a b ha hb=>by
  rcases keyIs_shape ha with ⟨i,t,rfl,rfl⟩|⟨x,t,rfl,rfl⟩
  ·rcases keyIs_shape hb with ⟨j,u,rfl,e⟩|⟨y,u,rfl,e⟩
   ·injection e with e1 _;rw[e1]
   ·exact nomatch e
  ·rcases keyIs_shape hb with ⟨j,u,rfl,e⟩|⟨y,u,rfl,e⟩
   ·exact nomatch e
   ·injection e with e1 _;rw[e1]
 byValue:=fun k v h=>by
  rcases keyIs_shape h with ⟨i,t,rfl,rfl⟩|⟨x,t,rfl,rfl⟩<;>rfl
 pyHash:=fun hv h=>by
  rcases keyIs_shape hv with ⟨i,t,rfl,rfl⟩|⟨x,t,rfl,rfl⟩
  ·exact wpAny_pyHash_int h
  ·exact wpAny_pyHash_str h
 eqBool:=fun hu hv h=>by
  rcases keyIs_shape hu with ⟨i,t,rfl,rfl⟩|⟨x,t,rfl,rfl⟩
  ·rcases keyIs_shape hv with ⟨j,u,rfl,rfl⟩|⟨y,u,rfl,rfl⟩
   ·rw[key_ll]at h;exact wpAny_eqBool_int h
   ·rw[key_lr]at h;exact SeqAt.EqAt.int_str i t y u _ _ _ _ h
  ·rcases keyIs_shape hv with ⟨j,u,rfl,rfl⟩|⟨y,u,rfl,rfl⟩
   ·rw[key_rl]at h;exact SeqAt.EqAt.str_int x t j u _ _ _ _ h
   ·rw[key_rr]at h;exact wpAny_eqBool_str h
 «strs»:=fun k x t v h=>by
  rcases keyIs_shape h with ⟨i,u,rfl,e⟩|⟨y,u,rfl,e⟩
  ·exact nomatch e
  ·injection e with e1 _
   subst e1
   cases v<;>rfl
end L2
namespace L2
open PySem PySem.Spec PyProof.Rows
inductive V where
 | non|bl (b:Bool)|int (i:Int)|str (x:Str)|byt (b:Array UInt8)|flt (b:UInt64)|ref (a:Addr)|ty (n:String)
 deriving DecidableEq
def RelV:V->Value->Prop
 | .non,u=>u=Value.none
 | .bl b,u=>u=Value.bool b
 | .int i,u=>∃t,u=Value.int i t
 | .str x,u=>∃t,u=Value.str x t
 | .byt b,u=>∃t,u=Value.bytes b t
 | .flt b,u=>∃t,u=Value.float b t
 | .ref a,u=>u=Value.ref a
 | .ty n,u=>u=Value.type n
abbrev Vals:List V->List Value->Prop:=Paired RelV
theorem Vals.length{xs:List V}{us:List Value}(r:Vals xs us):xs.length=us.length:=Paired.length r
theorem Vals.get:∀{xs:List V}{us:List Value}{i:Nat}{x:V},Vals xs us->xs[i]?=some x->∃u,us[i]?=some u/\RelV x u
 | _,_,_,_,.nil,e=>by simp at e
 | _,_,0,_,.cons r _,e=>by simp at e;subst e;exact⟨_,rfl,r⟩
 | _,_,i + 1,x,.cons _ t,e=>by
  obtain⟨u,h1,h2⟩:=Vals.get (i:=i) (x:=x) t (by simpa using e)
  exact⟨u,by simpa using h1,h2⟩
theorem Vals.set{x:V}{u:Value}(r:RelV x u):∀{xs:List V}{us:List Value}(i:Nat),Vals xs us->Vals (xs.set i x) (us.set i u)
 | _,_,_,.nil=>.nil
 | _,_,0,.cons _ t=>.cons r t
 | _,_,i + 1,.cons q t=>.cons q (Vals.set r i t)
theorem Vals.append:∀{xs ys:List V}{us ws:List Value},Vals xs us->Vals ys ws->Vals (xs++ys) (us++ws)
 | _,_,_,_,.nil,s=>s
 | _,_,_,_,.cons r t,s=>.cons r (Vals.append t s)
theorem Vals.take:∀{xs:List V}{us:List Value}(n:Nat),Vals xs us->Vals (xs.take n) (us.take n)
 | _,_,0,_=>.nil
 | _,_,_ + 1,.nil=>.nil
 | _,_,n + 1,.cons r t=>.cons r (Vals.take n t)
theorem Vals.drop:∀{xs:List V}{us:List Value}(n:Nat),Vals xs us->Vals (xs.drop n) (us.drop n)
 | _,_,0,r=>r
 | _,_,_ + 1,.nil=>.nil
 | _,_,n + 1,.cons _ t=>Vals.drop n t
def RelO:Option V->Option Value->Prop
 | some v,some u=>RelV v u
 | none,none=>True
 | _,_=>False
def KV{κ:Type}:List (κ×V)->List (κ×Value)->Prop:=Paired fun (p:κ×V) (q:κ×Value)=>p.1=q.1/\RelV p.2 q.2
def kV:Key->V
 | .inl i=>.int i
 | .inr x=>.str x
inductive HO where
 | lst (xs:List V)
 | tup (xs:List V)
 | dK (kvs:List (Key×V))|dT (kvs:List (List Key×V))
 | set (S:Int->Bool) (n:Nat)
 | ins (C dx:Addr) (fs:List (Str×V))
 | own (x:Addr)
 | xd (fs:List (Str×V))
 | met (f x:Addr)
 | rng (lo hi:Int)
 | frz (o:Obj) (u:HO)
 | tbl (ps:Array Value)
 | ext (φ:Heap->Prop)
abbrev Hp:=Addr->Option HO
def upd(H:Hp)(a:Addr)(o:HO):Hp:=fun b=>if b=a then some o else H b
theorem upd_same{H:Hp}{a:Addr}{o:HO}:upd H a o a=some o:=by unfold upd;rw[if_pos rfl]
theorem upd_ne{H:Hp}{a b:Addr}{o:HO}(h:b≠a):upd H a o b=H b:=by unfold upd;rw[if_neg h]
theorem upd_upd{H:Hp}{a:Addr}{o u:HO}:upd (upd H a o) a u=upd H a u:=by
 funext b;unfold upd;split<;>rfl
theorem ne_of_none{H:Hp}{a b:Addr}{o:HO}(h:H a=some o)(h':H b=none):a≠b:=by
 intro e;subst e;rw[h]at h';cases h'
section
variable (P:Program) (w:World)
def ObjOk(H:Hp)(h:Heap)(a:Addr):HO->Prop
 | .lst xs=>xs.length<=sizeLine/\∃(its:List Value) (n:Nat),Vals xs its/\h.get? a=some {cls:=.type "list", data:=.seq its.toArray n}
 | .tup xs=>xs.length<=sizeLine/\∃its:List Value,Vals xs its/\IsTup h a its.toArray
 | .dK kvs=>kvs.length<=sizeLine/\(a==sysModules)=false/\∃vs,KV kvs vs/\h.DictOf (mixKind P w) a vs
 | .dT kvs=>kvs.length<=sizeLine/\(a==sysModules)=false/\∃xs:List (List Key×Addr×Value),
   Paired (fun (p:List Key×V) (q:List Key×Addr×Value)=>p.1=q.1/\H q.2.1=some (.tup (p.1.map kV))/\RelV p.2 q.2.2) kvs xs ∧
   ∃o es ep,h.get? a=some o/\o.ExactDict/\o.data=.dict es ep/\es.toList=xs.map (entryOfKey (tupleKind (mixKind P w)))/\(xs.map (·.1)).Nodup
 | .set S n=>h.SetOf (intKind P w) a S n
 | .ins C dx fs=>H dx=some (.own a)/\fs.length<=1000/\dx≠a/\h.get? a=some (PySem.W.instObj C dx) ∧
   ∃mA,h.Ns1 dx mA/\(∀f,RelO (fs.lookup f) (mA f))/\PySem.Within mA (fs.map (·.1))
 | .own _=>∃o,h.get? a=some o
 | .xd fs=>∃mA,h.Ns1 a mA/\∀f,RelO (fs.lookup f) (mA f)
 | .rng lo hi=>∃t u v,h.get? a=some {cls:=.type "range", data:=.fields #[.int lo t,.int hi u,.int 1 v]}
 | .frz o u=>h.get? a=some o/\ObjOk H h a u
 | .tbl ps=>h.get? a=some {cls:=.none,data:=.fields ps}
 | .met f x=>h.get? a=some (PySem.W.methodObj (.ref f) (.ref x))
 | .ext φ=>φ h/\(∃o,h.get? a=some o)/\∀h1 h2:Heap,φ h1->(∀o,h1.get? a=some o->h2.get? a=some o)->φ h2
def HOk(H:Hp)(h:Heap):Prop:=∀a o,H a=some o->ObjOk P w H h a o
end
section
variable {P:Program} {w:World} {H H':Hp} {h h':Heap} {a:Addr} {o:HO}
theorem ObjOk.lt(x:ObjOk P w H h a o):a < h.objs.size:=by
 cases o with
 | lst xs=>obtain⟨_,_,_,_,e⟩:=x;exact Heap.lt_size e
 | tup xs=>obtain⟨_,_,_,p⟩:=x;exact p.lt
 | dK kvs=>obtain⟨_,_,_,_,o,_,_,e,_⟩:=x;exact Heap.lt_size e
 | dT kvs=>obtain⟨_,_,_,_,o,_,_,e,_⟩:=x;exact Heap.lt_size e
 | set S n=>obtain⟨o,_,_,_,e,_⟩:=x;exact Heap.lt_size e
 | ins C dx fs=>obtain⟨_,_,_,e,_⟩:=x;exact Heap.lt_size e
 | own y=>obtain⟨_,e⟩:=x;exact Heap.lt_size e
 | xd fs=>obtain⟨_,⟨_,_,_,e,_⟩,_⟩:=x;exact Heap.lt_size e
 | rng lo hi=>obtain⟨_,_,_,e⟩:=x;exact Heap.lt_size e
 | frz ob u=>obtain⟨e,_⟩:=x;exact Heap.lt_size e
 | tbl ps=>exact Heap.lt_size (show h.get? a=some _ from x)
 | met f y=>exact Heap.lt_size (show h.get? a=some _ from x)
 | ext φ=>obtain⟨_,⟨_,e⟩,_⟩:=x;exact Heap.lt_size e
theorem Paired.mapP{α β:Type}{F G:α->β->Prop}:∀{l₁:List α}{l₂:List β},Paired F l₁ l₂->(∀a b,F a b->G a b)->Paired G l₁ l₂
 | _,_,.nil,_=>.nil
 | _,_,.cons r t,f=>.cons (f _ _ r) (Paired.mapP t f)
theorem ObjOk.stay(x:ObjOk P w H h a o)(k:∀b u,(b=a∨H b=some (.own a))->h.get? b=some u->h'.get? b=some u)
  (ho:∀b,H b=some (.own a)->H' b=some (.own a)) (ht:∀b xs,H b=some (.tup xs)->H' b=some (.tup xs)):ObjOk P w H' h' a o:=by
 induction o with
 | lst xs=>obtain⟨z,its,n,r,e⟩:=x;exact⟨z,its,n,r,k _ _ (.inl rfl) e⟩
 | tup xs=>obtain⟨z,its,r,ob,e,c⟩:=x;exact⟨z,its,r,ob,k _ _ (.inl rfl) e,c⟩
 | dK kvs=>obtain⟨z,y,vs,r,ob,es,ep,e,c⟩:=x;exact⟨z,y,vs,r,ob,es,ep,k _ _ (.inl rfl) e,c⟩
 | dT kvs =>
  obtain⟨z,y,xs,r,ob,es,ep,e,c⟩:=x
  exact⟨z,y,xs,Paired.mapP r fun p q z=>⟨z.1,ht _ _ z.2.1,z.2.2⟩,ob,es,ep,k _ _ (.inl rfl) e,c⟩
 | set S n=>obtain⟨ob,es,ep,t,e,c⟩:=x;exact⟨ob,es,ep,t,k _ _ (.inl rfl) e,c⟩
 | ins C dx fs =>
  obtain⟨d,z,ne,e,mA,⟨od,es,ep,e2,c⟩,r⟩:=x
  exact⟨ho _ d,z,ne,k _ _ (.inl rfl) e,mA,⟨od,es,ep,k _ _ (.inr d) e2,c⟩,r⟩
 | own y=>obtain⟨ob,e⟩:=x;exact⟨ob,k _ _ (.inl rfl) e⟩
 | xd fs=>obtain⟨mA,⟨od,es,ep,e,c⟩,r⟩:=x;exact⟨mA,⟨od,es,ep,k _ _ (.inl rfl) e,c⟩,r⟩
 | rng lo hi=>obtain⟨t,u,v,e⟩:=x;exact⟨t,u,v,k _ _ (.inl rfl) e⟩
 | frz ob u ih=>obtain⟨e,q⟩:=x;exact⟨k _ _ (.inl rfl) e,ih q⟩
 | tbl ps =>
  have e:h.get? a=some {cls:=.none,data:=.fields ps}:=x
  show h'.get? a=some {cls:=.none,data:=.fields ps}
  exact k a _ (.inl rfl) e
 | met f y =>
  have e:h.get? a=some (PySem.W.methodObj (.ref f) (.ref y)):=x
  show h'.get? a=some (PySem.W.methodObj (.ref f) (.ref y))
  exact k a _ (.inl rfl) e
 | ext φ=>obtain⟨p,⟨o,e⟩,st⟩:=x;exact⟨st _ _ p fun o q=>k _ _ (.inl rfl) q,⟨o,k _ _ (.inl rfl) e⟩,st⟩
theorem HOk.lt(x:HOk P w H h)(e:H a=some o):a < h.objs.size:=(x a o e).lt
theorem HOk.fresh(x:HOk P w H h)(e:h.objs.size<=a):H a=none:=by
 cases q:H a with
 | none=>rfl
 | some u=>exact absurd (Nat.lt_of_lt_of_le (x.lt q) e) (Nat.lt_irrefl _)
theorem HOk.kept(x:HOk P w H h)(k:∀b u,h.get? b=some u->h'.get? b=some u):HOk P w H h':=fun a o e =>
 (x a o e).stay (fun b u _ q=>k b u q) (fun _ q=>q) fun _ _ q=>q
theorem HOk.laid(x:HOk P w H h)(k:∀b u,h.get? b=some u->h'.get? b=some u)(hp:h.objs.size<=a)(new:ObjOk P w (upd H a o) h' a o):HOk P w (upd H a o) h':=fun b u e=>by
 have hn:=x.fresh hp
 by_cases hb:b=a
 ·subst hb;rw[upd_same]at e;cases e;exact new
 ·rw[upd_ne hb]at e
  exact(x b u e).stay (fun c v _ q=>k c v q) (fun c q=>by rw[upd_ne (ne_of_none q hn)];exact q) fun c xs q=>by rw[upd_ne (ne_of_none q hn)];exact q
end
def Rd(H:Hp)(a:Addr)(u:HO):Prop:=H a=some u∨∃o,H a=some (.frz o u)
theorem Rd.of{H:Hp}{a:Addr}{u:HO}(h:H a=some u):Rd H a u:=.inl h
theorem Rd.ok{P:Program}{w:World}{H:Hp}{h:Heap}{a:Addr}{u:HO}(r:Rd H a u)(x:HOk P w H h):ObjOk P w H h a u:=by
 rcases r with r|⟨o,r⟩
 ·exact x a u r
 ·obtain⟨_,q⟩:=x a _ r
  exact q
def Mut:Option HO->Prop
 | some (.lst _)=>True
 | some (.dK _)=>True
 | some (.dT _)=>True
 | some (.set _ _)=>True
 | some (.ins _ _ _)=>True
 | some (.ext _)=>True
 | _=>False
section
variable {P:Program} {w:World} {H:Hp} {h h':Heap} {x e:Addr} {o':HO}
theorem HOk.write(ok:HOk P w H h)(mu:Mut (H x))(he:e=x∨H e=some (.own x))(k:∀b u,b≠e->h.get? b=some u->h'.get? b=some u)(heo:∃u,h'.get? e=some u)
  (new:ObjOk P w (upd H x o') h' x o'):HOk P w (upd H x o') h':=fun b u q=>by
 have nown:∀c y,H c=some (.own y)->c≠x:=fun c y r z=>by subst z;rw[r]at mu;exact mu
 have ntup:∀c xs,H c=some (.tup xs)->c≠x:=fun c xs r z=>by subst z;rw[r]at mu;exact mu
 by_cases hb:b=x
 ·subst hb;rw[upd_same]at q;cases q;exact new
 ·rw[upd_ne hb]at q
  by_cases hbe:b=e
  ·have q':H b=some (.own x):=by
    rcases he with z|z
    ·exact absurd (hbe.trans z) hb
    ·rw[hbe];exact z
   rw[q]at q';cases q'
   obtain⟨v,hv⟩:=heo
   exact⟨v,by rw[hbe];exact hv⟩
  ·refine(ok b u q).stay (fun c v hc r=>k c v ?_ r) (fun c r=>by rw[upd_ne (nown c b r)];exact r) fun c xs r=>by rw[upd_ne (ntup c xs r)];exact r
   rcases hc with rfl|hc
   ·exact hbe
   ·rintro rfl
    rcases he with z|z
    ·exact nown c b hc z
    ·rw[hc]at z;cases z;exact hb rfl
end
structure Un(fs ex:List Addr)(H H':Hp)(h h':Heap):Prop where
 keep:∀b o,h.get? b=some o->H b=none->b∉fs->b∉ex->h'.get? b=some o
 slot:∀b o,h.get? b=some o->H b=none->b∈fs->b∉ex->∃sl,h'.get? b=some {o with slots:=sl}
 free:∀b o,h.get? b=some o->H b=none->b∉ex->H' b=none
 there:∀b o,h.get? b=some o->b∉ex->∃o',h'.get? b=some o'
 tups:∀b xs,H b=some (.tup xs)->H' b=some (.tup xs)
 frzs:∀b o u,H b=some (.frz o u)->H' b=some (.frz o u)
 tbls:∀b ps,H b=some (.tbl ps)->∃more,H' b=some (.tbl (ps++more))
section
variable {fs fs' ex ex':List Addr} {H H1 H2:Hp} {h h1 h2 h':Heap} {a x e:Addr} {o:HO}
theorem Un.any(u:Un fs ex H H1 h h1){b:Addr}{ob:Obj}(q:h.get? b=some ob)(n:H b=none)(hx:b∉ex):∃sl,h1.get? b=some {ob with slots:=sl}:=by
 by_cases hb:b∈fs
 ·exact u.slot b ob q n hb hx
 ·exact⟨ob.slots,u.keep b ob q n hb hx⟩
theorem Un.trans(a:Un fs ex H H1 h h1)(b:Un fs ex H1 H2 h1 h2):Un fs ex H H2 h h2 where
 keep:=fun c ob q n hc hx=>b.keep c ob (a.keep c ob q n hc hx) (a.free c ob q n hx) hc hx
 slot:=fun c ob q n hc hx=>by
  obtain⟨sl,e1⟩:=a.slot c ob q n hc hx
  obtain⟨sl',e2⟩:=b.slot c _ e1 (a.free c ob q n hx) hc hx
  exact⟨sl',e2⟩
 free:=fun c ob q n hx=>by
  obtain⟨o',e1⟩:=a.there c ob q hx
  exact b.free c o' e1 (a.free c ob q n hx) hx
 there:=fun c ob q hx=>by
  obtain⟨o',e1⟩:=a.there c ob q hx
  exact b.there c o' e1 hx
 tups:=fun c xs q=>b.tups c xs (a.tups c xs q)
 frzs:=fun c ob xs q=>b.frzs c ob xs (a.frzs c ob xs q)
 tbls:=fun c ps q=>by
  obtain⟨m1,e1⟩:=a.tbls c ps q
  obtain⟨m2,e2⟩:=b.tbls c _ e1
  exact⟨m1++m2,by rw[e2,Array.append_assoc]⟩
theorem Un.kept(k:∀b u,h.get? b=some u->h'.get? b=some u):Un fs ex H H h h' :=
 ⟨fun b ob q _ _ _=>k b ob q,fun b ob q _ _ _=>⟨ob.slots,k b ob q⟩,fun _ _ _ n _=>n,fun b ob q _=>⟨ob,k b ob q⟩,fun _ _ q=>q,fun _ _ _ q=>q,fun _ ps q=>⟨#[],by rw[q];simp⟩⟩
theorem Un.refl:Un fs ex H H h h:=Un.kept fun _ _ q=>q
theorem Un.laid(k:∀b u,h.get? b=some u->h'.get? b=some u)(hp:h.objs.size<=a)(hn:H a=none):Un fs ex H (upd H a o) h h' where
 keep:=fun b u q _ _ _=>k b u q
 slot:=fun b u q _ _ _=>⟨u.slots,k b u q⟩
 free:=fun b u q n _=>by rw[upd_ne (Nat.ne_of_lt (Nat.lt_of_lt_of_le (Heap.lt_size q) hp))];exact n
 there:=fun b u q _=>⟨u,k b u q⟩
 tups:=fun b xs q=>by rw[upd_ne (ne_of_none q hn)];exact q
 frzs:=fun b u xs q=>by rw[upd_ne (ne_of_none q hn)];exact q
 tbls:=fun b ps q=>⟨#[],by rw[upd_ne (ne_of_none q hn),q];simp⟩
theorem Un.write(mu:Mut (H x))(he:e=x∨H e=some (.own x))(k:∀b u,b≠e->h.get? b=some u->h'.get? b=some u)(heo:∃u,h'.get? e=some u):Un fs ex H (upd H x o) h h':=by
 have hx:∀b,H b=none->b≠x:=fun b n z=>by subst z;rw[n]at mu;exact mu
 have hb:∀b,H b=none->b≠e:=fun b n z=>by
  subst z
  rcases he with r|r
  ·exact hx b n r
  ·rw[n]at r;cases r
 have hm:∀b u,H b=some u->¬ Mut (some u)->b≠x:=fun b u q nm z=>by subst z;rw[q]at mu;exact nm mu
 refine⟨fun b u q n _ _=>k b u (hb b n) q,fun b u q n _ _=>⟨u.slots,k b u (hb b n) q⟩,fun b u q n _=>by rw[upd_ne (hx b n)];exact n,fun b u q _=>?_,
  fun b xs q=>by rw[upd_ne (hm b _ q fun z=>z)];exact q,fun b u xs q=>by rw[upd_ne (hm b _ q fun z=>z)];exact q,fun b ps q=>⟨#[],by rw[upd_ne (hm b _ q fun z=>z),q];simp⟩⟩
 by_cases hbe:b=e
 ·subst hbe;exact heo
 ·exact⟨u,k b u hbe q⟩
theorem Un.mono(u:Un fs ex H H1 h h1)(hs:∀b∈fs,b∈fs')(hx:∀b∈ex,b∈ex'):Un fs' ex' H H1 h h1 :=
 ⟨fun b ob q n hb he=>u.keep b ob q n (fun z=>hb (hs b z)) fun z=>he (hx b z),fun _ _ q n _ he=>u.any q n fun z=>he (hx _ z),fun b ob q n he=>u.free b ob q n fun z=>he (hx b z),fun b ob q he=>u.there b ob q fun z=>he (hx b z),u.tups,u.frzs,u.tbls⟩
end
def trk(h:Heap)(H:Hp):List Addr:=(List.range h.objs.size).filter fun a=>(H a).isSome
def hidT(h:Heap)(H:Hp):Heap:=PySem.W.hideAll h (trk h H)
theorem hidT_size(h:Heap)(H:Hp):(hidT h H).objs.size=h.objs.size:=PySem.W.hideAll_size _ _
theorem hidT_get{h:Heap}{H:Hp}{b:Addr}{o:Obj}(e:h.get? b=some o)(n:H b=none):(hidT h H).get? b=some o :=
 PySem.W.hideAll_get _ e fun hm=>by
  have q:(H b).isSome=true:=(List.mem_filter.mp hm).2
  rw[n]at q;simp at q
theorem of_hidT{h:Heap}{H:Hp}{b:Addr}{o:Obj}(e:(hidT h H).get? b=some o):h.get? b=some o/\H b=none:=by
 have e':h.get? b=some o:=PySem.W.of_hideAll (trk h H) e
 refine⟨e',?_⟩
 cases q:H b with
 | none=>rfl
 | some x =>
  have hm:b∈trk h H:=List.mem_filter.mpr ⟨List.mem_range.mpr (Heap.lt_size e'),by simp[q]⟩
  have z:(hidT h H).get? b=none:=PySem.W.hideAll_none (trk h H) hm
  rw[z]at e;cases e
def allNews(g h:Heap)(L:Addr):List (Addr×Obj):=(List.range h.objs.size).filterMap fun a=>if a=L∨(g.get? a).isSome=true then none else (h.get? a).map fun o=>(a,o)
def rest(g h:Heap)(L d:Addr):List (Addr×Obj):=(allNews g h L).filter fun p=>decide (p.1≠d)
end L2
namespace L2
open PySem PySem.Spec PyProof.Rows
structure Mod(K:PySem.W.Frag)(mg:Str->Option Value)(base:Heap):Prop where
 kin:K.In base
 glob:base.Ns mainGlobals mg
 blt:∃mb,base.Ns builtinsNs mb/\∀x:Str,x ≠ "__name__" -> mb x=bootBuiltins x
 nolimit:base.NoLimit
structure Cx where
 prog:Program
 w:World
 K:PySem.W.Frag
 mg:Str->Option Value
 base:Heap
 A:Around
 N:List Str
 s₀:Shared
 H₀:Hp
 env:Env
 outer:List Env
 stack:List Env
 ex:List Addr
 fn:Str->Bool
 calm:Bool
 pn:List (Addr×Obj)
 xe:Value->Shared->Prop
def frs(l:List Env):List Addr:=l.filterMap (·.frame)
abbrev Cx.fs(X:Cx):List Addr:=frs X.outer
def Vis(sc:Scope)(x:Str):Prop:=sc.names.lookup x=some .local∨sc.names.lookup x=some .cell∨sc.names.lookup x=some .free
def Loc(sc:Scope)(x:Str):Prop:=sc.names.lookup x=some .local∨sc.names.lookup x=some .cell
def Look(env:Env)(h:Heap)(m:Str->Option Value)(x:Str)(u:Value):Prop :=
 (env.kindOf x=some .local/\m x=some u)∨((env.kindOf x=some .cell∨env.kindOf x=some .free)/\∃c,env.cells.lookup x=some c/\h.IsCell c (some u))
structure Cx.Ok(X:Cx):Prop where
 mod:Mod X.K X.mg X.base
 kind:X.env.scope.kind=.function
 glob:X.env.globals=mainGlobals
 blt:X.env.builtins=builtinsNs
 above:X.s₀.heap.objs.size<=X.env.locals
 inj:∀x y c,X.env.cells.lookup x=some c->X.env.cells.lookup y=some c->x=y
 has:∀x,(X.env.kindOf x=some .cell∨X.env.kindOf x=some .free)->∃c,X.env.cells.lookup x=some c
 cab:∀x c,X.fn x=true->X.env.cells.lookup x=some c->X.s₀.heap.objs.size<=c
 hd:X.calm=true->X.A.handled=none
 frames:X.A.frames=some X.stack
 stk:X.stack=X.outer∨(X.stack=X.env::X.outer/\X.env.frame=some X.env.locals)
 exf:∀b∈X.ex,b≠X.env.locals/\∀x c,X.env.cells.lookup x=some c->c≠b
 bs:∀b o,X.base.get? b=some o->X.s₀.heap.get? b=some o/\X.H₀ b=none
 bsz:X.base.objs.size<=X.s₀.heap.objs.size
 noex:∀b o,X.base.get? b=some o->b∉X.ex
 exfs:∀b∈X.ex,b∉X.fs
 funs:X.s₀.heap.FunFrames X.base X.outer
 frf:∀b∈X.fs,X.H₀ b=none
structure Inv(X:Cx)(pins:List (Addr×Obj))(σ:List (Option V))(H:Hp)(s:Shared):Prop where
 ok:X.Ok
 os:s.os=X.s₀.os
 bare:AllBare s.gens
 base:Un X.fs X.ex X.H₀ H X.s₀.heap s.heap
 loc:∃m,s.heap.Ns X.env.locals m/\∀(i:Nat)(x:Str)(v:V),X.N[i]?=some x->σ[i]?=some (some v)->Vis X.env.scope x->∃u,RelV v u/\Look X.env s.heap m x u
 cell:∀x c,X.env.cells.lookup x=some c->∃v,s.heap.IsCell c v
 free:H X.env.locals=none
 freeC:∀x c,X.env.cells.lookup x=some c->H c=none
 pin:∀p∈X.pn++pins,s.heap.get? p.1=some p.2/\H p.1=none/\p.1≠X.env.locals/\p.1∉X.fs/\∀v,p.2.data ≠ .cell v
 hok:HOk X.prog X.w H s.heap
 len:σ.length=X.N.length
section
variable {X:Cx} {pins:List (Addr×Obj)} {σ:List (Option V)} {H H':Hp} {s:Shared} {h':Heap}
theorem Cx.Ok.nofr(ok:X.Ok){b:Addr}{o:Obj}(e:X.base.get? b=some o):b∉X.fs:=fun hb=>by
 have:=(ok.funs.mem hb).1
 rw[e]at this;cases this
theorem Inv.bs(I:Inv X pins σ H s):∀b o,X.base.get? b=some o->s.heap.get? b=some o/\H b=none:=fun b o e =>
 ⟨I.base.keep b o (I.ok.bs b o e).1 (I.ok.bs b o e).2 (I.ok.nofr e) (I.ok.noex b o e),I.base.free b o (I.ok.bs b o e).1 (I.ok.bs b o e).2 (I.ok.noex b o e)⟩
theorem Inv.bk(I:Inv X pins σ H s):∀b o,X.base.get? b=some o->s.heap.get? b=some o:=fun b o e=>(I.bs b o e).1
theorem Inv.mod(I:Inv X pins σ H s):Mod X.K X.mg X.base:=I.ok.mod
theorem Inv.kIn(I:Inv X pins σ H s):X.K.In s.heap:=I.ok.mod.kin.keeps I.bk
theorem Inv.nolimit(I:Inv X pins σ H s):s.heap.NoLimit:=I.ok.mod.nolimit.keeps I.bk
theorem Inv.lt(I:Inv X pins σ H s):X.env.locals < s.heap.objs.size:=let ⟨_,hn,_⟩:=I.loc;hn.lt
theorem Inv.sz(I:Inv X pins σ H s):X.s₀.heap.objs.size<=s.heap.objs.size:=Nat.le_trans I.ok.above (Nat.le_of_lt I.lt)
theorem Inv.nofs(I:Inv X pins σ H s){a:Addr}(h:s.heap.objs.size<=a):a∉X.fs:=fun hb=>by
 obtain⟨_,o,ho,_⟩:=I.ok.funs.mem hb
 exact absurd (Nat.lt_of_lt_of_le (Heap.lt_size ho) (Nat.le_trans I.sz h)) (Nat.lt_irrefl _)
theorem Inv.cne(I:Inv X pins σ H s):∀x c,X.env.cells.lookup x=some c->c≠X.env.locals:=fun x c e z=>by
 obtain⟨v,o,ho,hd⟩:=I.cell x c e
 obtain⟨m,⟨o',es,ep,ho',hd',_⟩,_⟩:=I.loc
 rw[z,ho']at ho;cases ho;rw[hd']at hd;cases hd
theorem Inv.funs(I:Inv X pins σ H s):s.heap.FunFrames X.base X.outer:=by
 have all:∀(l:List Env),(∀b∈frs l,b∈X.fs)->X.s₀.heap.FunFrames X.base l->s.heap.FunFrames X.base l:=by
  intro l
  induction l with
  | nil=>intro _ _;trivial
  | cons env r ih =>
   intro hs hl
   obtain⟨hk,⟨L,o,hf,hn,ho,hd⟩,hr⟩:=hl
   have hL:L∈X.fs:=hs L (by unfold frs;rw[List.filterMap_cons,hf];exact List.mem_cons_self)
   obtain⟨sl,e⟩:=I.base.slot L o ho (I.ok.frf L hL) hL fun z=>I.ok.exfs L z hL
   exact⟨hk,⟨L,_,hf,hn,e,hd⟩,ih (fun b hb=>hs b (by unfold frs;rw[List.filterMap_cons,hf];exact List.mem_cons_of_mem _ hb)) hr⟩
 exact all X.outer (fun _ hb=>hb) I.ok.funs
theorem Inv.stack(I:Inv X pins σ H s):s.heap.FunFrames X.base X.stack:=by
 rcases I.ok.stk with e|⟨e,hf⟩
 ·rw[e];exact I.funs
 ·rw[e]
  obtain⟨m,hn,_⟩:=I.loc
  refine .cons (by rw[I.ok.kind];decide) hf hn ?_ I.funs
  exact Heap.get?_none_of_le (Nat.le_trans I.ok.bsz I.ok.above)
theorem Inv.stkSub(I:Inv X pins σ H s):∀b∈frs X.stack,b∈X.env.locals::X.fs:=fun b hb=>by
 rcases I.ok.stk with e|⟨e,hf⟩
 ·rw[e]at hb;exact List.mem_cons_of_mem _ hb
 ·rw[e]at hb
  unfold frs at hb
  rw[List.filterMap_cons,hf]at hb
  exact hb
theorem Inv.stkFree(I:Inv X pins σ H s):∀b∈frs X.stack,H b=none:=fun b hb=>by
 rcases List.mem_cons.mp (I.stkSub b hb) with e|hb
 ·rw[e];exact I.free
 ·obtain⟨_,o,ho,_⟩:=I.ok.funs.mem hb
  exact I.base.free b o ho (I.ok.frf b hb) fun z=>I.ok.exfs b z hb
theorem Inv.step{g':Array GenState}{t':Nat}{d':Drawn}{ch:List Addr}(I:Inv X pins σ H s)
  (hch:∀b∈ch,(b∈X.ex∨X.s₀.heap.objs.size<=b)/\b≠X.env.locals/\(∀x c,X.env.cells.lookup x=some c->c≠b)/\∀p∈X.pn++pins,p.1≠b)
  (keep:∀b o,b≠X.env.locals->b∉X.fs->b∉ch->s.heap.get? b=some o->H b=none->h'.get? b=some o)
  (slot:∀b o,b≠X.env.locals->b∈X.fs->b∉ch->s.heap.get? b=some o->H b=none->∃sl,h'.get? b=some {o with slots:=sl}) (free:∀b o,b∉ch->s.heap.get? b=some o->H b=none->H' b=none)
  (there:∀b o,b∉ch->s.heap.get? b=some o->∃o',h'.get? b=some o')
  (tups:∀b xs,H b=some (.tup xs)->H' b=some (.tup xs)) (frzs:∀b o u,H b=some (.frz o u)->H' b=some (.frz o u)) (tbls:∀b ps,H b=some (.tbl ps)->∃more,H' b=some (.tbl (ps++more)))
  (ns:∀m,s.heap.Ns X.env.locals m->h'.Ns X.env.locals m) (hok:HOk X.prog X.w H' h') (hg:AllBare g') :
  Inv X pins σ H' {s with heap:=h',gens:=g',drawn:=d',toks:=t' }:=by
 have neL:∀b o,X.s₀.heap.get? b=some o->b≠X.env.locals:=fun b o e=>Nat.ne_of_lt (Nat.lt_of_lt_of_le (Heap.lt_size e) I.ok.above)
 have neC:∀b o,X.s₀.heap.get? b=some o->b∉X.ex->b∉ch:=fun b o e hx hb=>by
  rcases (hch b hb).1 with z|z
  ·exact hx z
  ·exact absurd (Nat.lt_of_lt_of_le (Heap.lt_size e) z) (Nat.lt_irrefl _)
 have cellK:∀x c,X.env.cells.lookup x=some c->∀v,s.heap.IsCell c v->h'.IsCell c v:=fun x c e v ⟨o,ho,hd⟩=>by
  have nch:c∉ch:=fun z=>(hch c z).2.2.1 x c e rfl
  by_cases hc:c∈X.fs
  ·obtain⟨sl,q⟩:=slot c o (I.cne x c e) hc nch ho (I.freeC x c e)
   exact⟨_,q,hd⟩
  ·exact⟨o,keep c o (I.cne x c e) hc nch ho (I.freeC x c e),hd⟩
 refine⟨I.ok,I.os,hg,⟨fun b o e n hb hx=>?_,fun b o e n hb hx=>?_,fun b o e n hx=>?_,fun b o e hx=>?_,fun b xs e=>tups b xs (I.base.tups b xs e),fun b o xs e=>frzs b o xs (I.base.frzs b o xs e),fun b ps e=>?_⟩,?_,fun x c e=>?_,?_,fun x c e=>?_,fun p hp=>?_,hok,I.len⟩
 ·exact keep b o (neL b o e) hb (neC b o e hx) (I.base.keep b o e n hb hx) (I.base.free b o e n hx)
 ·obtain⟨sl,e1⟩:=I.base.slot b o e n hb hx
  obtain⟨sl',e2⟩:=slot b _ (neL b o e) hb (neC b o e hx) e1 (I.base.free b o e n hx)
  exact⟨sl',e2⟩
 ·obtain⟨o',e1⟩:=I.base.there b o e hx
  exact free b o' (neC b o e hx) e1 (I.base.free b o e n hx)
 ·obtain⟨o',e1⟩:=I.base.there b o e hx
  exact there b o' (neC b o e hx) e1
 ·obtain⟨m1,e1⟩:=I.base.tbls b ps e
  obtain⟨m2,e2⟩:=tbls b _ e1
  exact⟨m1++m2,by rw[e2,Array.append_assoc]⟩
 ·obtain⟨m,hn,hl⟩:=I.loc
  refine⟨m,ns m hn,fun i x v e1 e2 e3=>?_⟩
  obtain⟨u,r,l⟩:=hl i x v e1 e2 e3
  refine⟨u,r,?_⟩
  rcases l with l|⟨k,c,e,z⟩
  ·exact .inl l
  ·exact .inr ⟨k,c,e,cellK x c e _ z⟩
 ·obtain⟨v,z⟩:=I.cell x c e
  exact⟨v,cellK x c e v z⟩
 ·obtain⟨m,⟨o,_,_,ho,_⟩,_⟩:=I.loc
  exact free _ o (fun z=>(hch _ z).2.1 rfl) ho I.free
 ·obtain⟨v,o,ho,hd⟩:=I.cell x c e
  exact free c o (fun z=>(hch c z).2.2.1 x c e rfl) ho (I.freeC x c e)
 ·obtain⟨e,n,ne,nf,d⟩:=I.pin p hp
  have nch:p.1∉ch:=fun z=>(hch p.1 z).2.2.2 p hp rfl
  exact⟨keep p.1 p.2 ne nf nch e n,free p.1 p.2 nch e n,ne,nf,d⟩
theorem Inv.un{t':Nat}(I:Inv X pins σ H s)(u:Un X.fs [] H H' s.heap h')(hok:HOk X.prog X.w H' h'):Inv X pins σ H' {s with heap:=h',toks:=t' }:=by
 obtain⟨m,⟨o,es,ep,ho,r⟩,_⟩:=id I.loc
 obtain⟨sl,hL⟩:=u.any ho I.free (by simp)
 exact I.step (g':=s.gens) (d':=s.drawn) (ch:=[]) (fun _ z=>nomatch z) (fun b o _ hb _ e n=>u.keep b o e n hb (by simp)) (fun b o _ hb _ e n=>u.slot b o e n hb (by simp)) (fun b o _ e n=>u.free b o e n (by simp)) (fun b o _ e=>u.there b o e (by simp)) u.tups u.frzs u.tbls (fun m' hm=>by
  obtain⟨o',es',ep',ho',r'⟩:=hm
  rw[ho]at ho';cases ho'
  exact⟨_,es',ep',hL,r'⟩) hok I.bare
theorem Inv.call{g':Array GenState}{t':Nat}{d':Drawn}{ch:List Addr}(I:Inv X pins σ H s)(u:Un (frs X.stack) ch H H' s.heap h')(hok:HOk X.prog X.w H' h')(hg:AllBare g')
  (hch:∀b∈ch,(b∈X.ex∨X.s₀.heap.objs.size<=b)/\b≠X.env.locals/\(∀x c,X.env.cells.lookup x=some c->c≠b)/\∀p∈X.pn++pins,p.1≠b) :
  Inv X pins σ H' {s with heap:=h',gens:=g',drawn:=d',toks:=t' }:=by
 obtain⟨m,⟨o,es,ep,ho,r⟩,_⟩:=id I.loc
 obtain⟨sl,hL⟩:=u.any ho I.free fun z=>(hch _ z).2.1 rfl
 exact I.step (ch:=ch) hch (fun b o hL hb hc e n=>u.keep b o e n (fun z=>(List.mem_cons.mp (I.stkSub b z)).elim hL hb) hc) (fun b o _ _ hc e n=>u.any e n hc) (fun b o hc e n=>u.free b o e n hc) (fun b o hc e=>u.there b o e hc) u.tups u.frzs u.tbls (fun m' hm=>by
  obtain⟨o',es',ep',ho',r'⟩:=hm
  rw[ho]at ho';cases ho'
  exact⟨_,es',ep',hL,r'⟩) hok hg
theorem Inv.turned{t':Nat}{it:Addr}(I:Inv X pins σ H s)(k:∀b o,b≠it->s.heap.get? b=some o->h'.get? b=some o)(hn:H it=none)(hL:it≠X.env.locals)
  (h1:it∈X.ex∨X.s₀.heap.objs.size<=it) (h2:∀x c,X.env.cells.lookup x=some c->c≠it) (h3:∀p∈X.pn++pins,p.1≠it):Inv X pins σ H {s with heap:=h',toks:=t' }:=by
 have nit:∀b u,H b=some u->b≠it:=fun b u e z=>by rw[z,hn]at e;cases e
 refine I.step (g':=s.gens) (d':=s.drawn) (ch:=[it]) (fun b hb=>?_) (fun b o _ _ hc e _=>k b o (fun z=>hc (by simp[z])) e) (fun b o _ _ hc e _=>⟨o.slots,k b o (fun z=>hc (by simp[z])) e⟩) (fun _ _ _ _ n=>n)
  (fun b o hc e=>⟨o,k b o (fun z=>hc (by simp[z])) e⟩) (fun _ _ e=>e) (fun _ _ _ e=>e) (fun b ps e=>⟨#[],by rw[e];simp⟩) (fun m hm=>?_) (fun b u e=>?_) I.bare
 ·have e:b=it:=by simpa using hb
  subst e
  exact⟨h1,hL,h2,h3⟩
 ·obtain⟨o,es,ep,ho,r⟩:=hm
  exact⟨o,es,ep,k _ o (Ne.symm hL) ho,r⟩
 ·refine(I.hok b u e).stay (fun c v hc q=>k c v ?_ q) (fun _ q=>q) fun _ _ q=>q
  rcases hc with z|z
  ·rw[z];exact nit b u e
  ·exact nit c _ z
theorem Inv.tok(I:Inv X pins σ H s)(t:Nat):Inv X pins σ H {s with toks:=t}:=I.un (h':=s.heap) (t':=t) Un.refl I.hok
theorem Inv.kept{t':Nat}(I:Inv X pins σ H s)(k:∀b u,s.heap.get? b=some u->h'.get? b=some u):Inv X pins σ H {s with heap:=h',toks:=t' }:=I.un (Un.kept k) (I.hok.kept k)
theorem Inv.laid{a:Addr}{o:HO}{t':Nat}(I:Inv X pins σ H s)(k:∀b u,s.heap.get? b=some u->h'.get? b=some u)(hp:s.heap.objs.size<=a)(new:ObjOk X.prog X.w (upd H a o) h' a o) :
  Inv X pins σ (upd H a o) {s with heap:=h',toks:=t' }:=I.un (Un.laid k hp (I.hok.fresh hp)) (I.hok.laid k hp new)
theorem Inv.write{x e:Addr}{o:HO}{t':Nat}(I:Inv X pins σ H s)(mu:Mut (H x))(he:e=x∨H e=some (.own x))(k:∀b u,b≠e->s.heap.get? b=some u->h'.get? b=some u)(heo:∃u,h'.get? e=some u)
  (new:ObjOk X.prog X.w (upd H x o) h' x o):Inv X pins σ (upd H x o) {s with heap:=h',toks:=t' }:=I.un (Un.write mu he k heo) (I.hok.write mu he k heo new)
theorem Inv.weak{σ':List (Option V)}(I:Inv X pins σ H s)(hl:σ'.length=σ.length)(w:∀(i:Nat) v,σ'[i]?=some (some v)->σ[i]?=some (some v)):Inv X pins σ' H s :=
 ⟨I.ok,I.os,I.bare,I.base,let ⟨m,hn,hl'⟩:=I.loc;⟨m,hn,fun i x v e1 e2 e3=>hl' i x v e1 (w i v e2) e3⟩,I.cell,I.free,I.freeC,I.pin,I.hok,hl.trans I.len⟩
theorem Inv.pins_of{pins':List (Addr×Obj)}(I:Inv X pins σ H s)(h:∀p∈pins',s.heap.get? p.1=some p.2/\H p.1=none/\p.1≠X.env.locals/\p.1∉X.fs/\∀v,p.2.data ≠ .cell v):Inv X pins' σ H s :=
 ⟨I.ok,I.os,I.bare,I.base,I.loc,I.cell,I.free,I.freeC,fun p hp=>(List.mem_append.mp hp).elim (fun z=>I.pin p (List.mem_append_left _ z)) (h p),I.hok,I.len⟩
theorem nodup_ix{N:List Str}(hN:N.Nodup){i j:Nat}{x:Str}(a:N[i]?=some x)(b:N[j]?=some x):i=j:=by
 obtain⟨h1,e1⟩:=List.getElem?_eq_some_iff.mp a
 obtain⟨h2,e2⟩:=List.getElem?_eq_some_iff.mp b
 exact(List.getElem_inj hN).mp (e1.trans e2.symm)
theorem store_ok2{M:Model}{A:Around}{E:Value->Shared->Prop}{i:Nat}{x:Str}{v:V}{u:Value}{Q:Unit->Shared->Prop}(I:Inv X pins σ H s)(hN:X.N.Nodup)(hi:X.N[i]?=some x)(hx:Loc X.env.scope x)(r:RelV v u)
  (h:∀s',Inv X pins (σ.set i (some v)) H s'->(∃a,Heap.SameBut a s.heap s'.heap/\(a=X.env.locals∨X.env.cells.lookup x=some a))->Q () s') (hf:X.fn x=true∨X.env.scope.names.lookup x=some .local:=by first|exact .inl rfl|exact .inr rfl|assumption):wpAny M A (storeName X.env x u) Q E s:=by
 obtain⟨m,hn,hl⟩:=id I.loc
 have hcls:(X.env.scope.kind == .class||(X.env.scope.kind == .module&&X.env.locals != X.env.globals))=false:=by rw[I.ok.kind];rfl
 have hiσ:i < σ.length:=by rw[I.len];exact(List.getElem?_eq_some_iff.mp hi).1
 have cne:=I.cne
 have tracked:∀{a:Addr}{h':Heap},(∃o,s.heap.get? a=some o/\H a=none)->Heap.SameBut a s.heap h'->HOk X.prog X.w H h':=fun {a h'} ha hs b ob e=>by
  obtain⟨_,_,hfree⟩:=ha
  refine(I.hok b ob e).stay (fun c w' hc q=>(hs.2 c ?_).trans q) (fun _ q=>q) fun _ _ q=>q
  rintro rfl
  rcases hc with rfl|hc
  ·rw[hfree]at e;cases e
  ·rw[hfree]at hc;cases hc
 rcases hx with hk|hk
 ·refine wpAny_storeName_local hk hn (fun h' hn' hs=>?_) hcls
  obtain⟨oL,_,_,hoL,_⟩:=id hn
  refine h _ ⟨I.ok,I.os,I.bare,⟨fun b o e n hb hx=>?_,fun b o e n hb hx=>?_,I.base.free,fun b o e hx=>?_,I.base.tups,I.base.frzs,I.base.tbls⟩,⟨_,hn',fun j y v' e1 e2 e3=>?_⟩,fun y c e=>?_,I.free,I.freeC,fun p hp=>?_,tracked ⟨oL,hoL,I.free⟩ hs,by simpa using I.len⟩ ⟨_,hs,.inl rfl⟩
  ·exact(hs.2 b (Nat.ne_of_lt (Nat.lt_of_lt_of_le (Heap.lt_size e) I.ok.above))).trans (I.base.keep b o e n hb hx)
  ·obtain⟨sl,e1⟩:=I.base.slot b o e n hb hx
   exact⟨sl,(hs.2 b (Nat.ne_of_lt (Nat.lt_of_lt_of_le (Heap.lt_size e) I.ok.above))).trans e1⟩
  ·obtain⟨o',e1⟩:=I.base.there b o e hx
   exact⟨o',(hs.2 b (Nat.ne_of_lt (Nat.lt_of_lt_of_le (Heap.lt_size e) I.ok.above))).trans e1⟩
  ·by_cases hj:j=i
   ·subst hj
    rw[hi]at e1;cases e1
    rw[List.getElem?_set_self hiσ]at e2
    cases e2
    exact⟨u,r,.inl ⟨hk,by simp⟩⟩
   ·rw[List.getElem?_set_ne (Ne.symm hj)]at e2
    obtain⟨u',r',q⟩:=hl j y v' e1 e2 e3
    refine⟨u',r',?_⟩
    rcases q with ⟨k,e⟩|⟨k,c,e,z⟩
    ·refine .inl ⟨k,?_⟩
     have:y≠x:=fun e=>hj (nodup_ix hN e1 (e ▸ hi))
     simp[this,e]
    ·exact .inr ⟨k,c,e,z.sameBut hs (cne y c e)⟩
  ·obtain⟨w',z⟩:=I.cell y c e
   exact⟨w',z.sameBut hs (cne y c e)⟩
  ·obtain⟨e,n,ne,nf,d⟩:=I.pin p hp
   exact⟨(hs.2 p.1 ne).trans e,n,ne,nf,d⟩
 ·have hfn:X.fn x=true:=by
   rcases hf with z|z
   ·exact z
   ·rw[z]at hk;cases hk
  obtain⟨c,hc⟩:=I.ok.has x (.inl hk)
  obtain⟨w',z⟩:=I.cell x c hc
  refine wpAny_storeName_cell I.ok.kind hk hc z (fun h' hc' hs=>?_)
  obtain⟨oc,hoc,hocd⟩:=id z
  refine h {s with heap:=h' } ⟨I.ok,I.os,I.bare,⟨fun b o e n hb hx=>?_,fun b o e n hb hx=>?_,I.base.free,fun b o e hx=>?_,I.base.tups,I.base.frzs,I.base.tbls⟩,⟨m,hn.sameBut hs (Ne.symm (cne x c hc)),fun j y v' e1 e2 e3=>?_⟩,fun y c' e=>?_,I.free,I.freeC,fun p hp=>?_,tracked ⟨oc,hoc,I.freeC x c hc⟩ hs,by simpa using I.len⟩ ⟨c,hs,.inr hc⟩
  ·exact(hs.2 b (Nat.ne_of_lt (Nat.lt_of_lt_of_le (Heap.lt_size e) (I.ok.cab x c hfn hc)))).trans (I.base.keep b o e n hb hx)
  ·obtain⟨sl,e1⟩:=I.base.slot b o e n hb hx
   exact⟨sl,(hs.2 b (Nat.ne_of_lt (Nat.lt_of_lt_of_le (Heap.lt_size e) (I.ok.cab x c hfn hc)))).trans e1⟩
  ·obtain⟨o',e1⟩:=I.base.there b o e hx
   exact⟨o',(hs.2 b (Nat.ne_of_lt (Nat.lt_of_lt_of_le (Heap.lt_size e) (I.ok.cab x c hfn hc)))).trans e1⟩
  ·by_cases hj:j=i
   ·subst hj
    rw[hi]at e1;cases e1
    rw[List.getElem?_set_self hiσ]at e2
    cases e2
    exact⟨u,r,.inr ⟨.inl hk,c,hc,hc'⟩⟩
   ·rw[List.getElem?_set_ne (Ne.symm hj)]at e2
    obtain⟨u',r',q⟩:=hl j y v' e1 e2 e3
    refine⟨u',r',?_⟩
    rcases q with q|⟨k,c',e,z'⟩
    ·exact .inl q
    ·refine .inr ⟨k,c',e,z'.sameBut hs ?_⟩
     rintro rfl
     exact hj (nodup_ix hN e1 (I.ok.inj _ _ _ e hc ▸ hi))
  ·by_cases hcc:c'=c
   ·subst hcc;exact⟨_,hc'⟩
   ·obtain⟨w2,z2⟩:=I.cell y c' e
    exact⟨w2,z2.sameBut hs hcc⟩
  ·obtain⟨e,n,ne,nf,d⟩:=I.pin p hp
   refine⟨(hs.2 p.1 ?_).trans e,n,ne,nf,d⟩
   intro q
   rw[q,hoc]at e
   have q':oc=p.2:=Option.some.inj e
   exact d w' (by rw[← q'];exact hocd)
theorem store_ok{M:Model}{A:Around}{E:Value->Shared->Prop}{i:Nat}{x:Str}{v:V}{u:Value}{Q:Unit->Shared->Prop}(I:Inv X pins σ H s)(hN:X.N.Nodup)(hi:X.N[i]?=some x)(hx:Loc X.env.scope x)(r:RelV v u)
  (h:∀s',Inv X pins (σ.set i (some v)) H s'->Q () s') (hf:X.fn x=true∨X.env.scope.names.lookup x=some .local:=by first|exact .inl rfl|exact .inr rfl|assumption):wpAny M A (storeName X.env x u) Q E s :=
 store_ok2 I hN hi hx r (fun s' I' _=>h s' I') hf
theorem Inv.call'{s':Shared}{ch:List Addr}(I:Inv X pins σ H s)(ho:s'.os=s.os)(u:Un (frs X.stack) ch H H' s.heap s'.heap)(hok:HOk X.prog X.w H' s'.heap)(hg:AllBare s'.gens)
  (hch:∀b∈ch,(b∈X.ex∨X.s₀.heap.objs.size<=b)/\b≠X.env.locals/\(∀x c,X.env.cells.lookup x=some c->c≠b)/\∀p∈X.pn++pins,p.1≠b):Inv X pins σ H' s':=by
 obtain⟨h',g',d',t',o'⟩:=s'
 have e:o'=s.os:=ho
 subst e
 exact I.call (g':=g') (t':=t') (d':=d') u hok hg hch
end
abbrev XK:=Value->Option Addr->Hp->Prop
abbrev St:=List (Option V)
abbrev VK:=V->Hp->Prop
abbrev TE:=St->Hp->VK->Prop
abbrev TT:=St->Hp->(Bool->Hp->Prop)->Prop
abbrev TA:=St->Hp->(List V->Hp->Prop)->Prop
structure Ends where
 nx:St->Hp->Prop
 rt:VK
 bk:St->Hp->Prop:=fun _ _=>False
 ct:St->Hp->Prop:=fun _ _=>False
abbrev TS:=Ends->St->Hp->Prop
def EP(X:Cx)(pins:List (Addr×Obj))(σ:St)(Q:VK)(u:Value)(s':Shared):Prop:=∃v H',Inv X pins σ H' s'/\RelV v u/\Q v H'
def TP(X:Cx)(pins:List (Addr×Obj))(σ:St)(Q:Bool->Hp->Prop)(b:Bool)(s':Shared):Prop:=∃H',Inv X pins σ H' s'/\Q b H'
def AP(X:Cx)(pins:List (Addr×Obj))(σ:St)(Q:List V->Hp->Prop)(us:List Value)(s':Shared):Prop:=∃vs H',Inv X pins σ H' s'/\Vals vs us/\Q vs H'
def SP(X:Cx)(pins:List (Addr×Obj))(D:Ends)(f:Flow)(s':Shared):Prop :=
 match f with
 | .next=>∃σ' H',Inv X pins σ' H' s'/\D.nx σ' H'
 | .brk=>∃σ' H',Inv X pins σ' H' s'/\D.bk σ' H'
 | .cont=>∃σ' H',Inv X pins σ' H' s'/\D.ct σ' H'
 | .ret u=>∃v σ' H',Inv X pins σ' H' s'/\RelV v u/\D.rt v H'
def PE(X:Cx)(e:Expr)(t:TE):Prop :=
 ∀(pins:List (Addr×Obj))(s:Shared)(σ:St)(H:Hp)(Q:VK),Inv X pins σ H s->t σ H Q->wpAny (model X.prog X.w) X.A (eval e X.env) (EP X pins σ Q) X.xe s
def PT(X:Cx)(e:Expr)(t:TT):Prop :=
 ∀(pins:List (Addr×Obj))(s:Shared)(σ:St)(H:Hp)(Q:Bool->Hp->Prop),Inv X pins σ H s->t σ H Q->wpAny (model X.prog X.w) X.A (isTrue e X.env (eval e X.env)) (TP X pins σ Q) X.xe s
def PW(X:Cx)(e:Expr)(t:TT):Prop :=
 ∀(whole:Sem Value)(pins:List (Addr×Obj))(s:Shared)(σ:St)(H:Hp)(Q:Bool->Hp->Prop),Inv X pins σ H s->t σ H Q->wpAny (model X.prog X.w) X.A (isTrue e X.env whole) (TP X pins σ Q) X.xe s
theorem PW.pt{X:Cx}{e:Expr}{t:TT}(h:PW X e t):PT X e t:=h _
def PA(X:Cx)(es:List Expr)(t:TA):Prop :=
 ∀(pos:Pos)(pins:List (Addr×Obj))(s:Shared)(σ:St)(H:Hp)(Q:List V->Hp->Prop),Inv X pins σ H s->t σ H Q->wpAny (model X.prog X.w) X.A (spliced (backTo pos (starEach es X.env))) (AP X pins σ Q) X.xe s
def PS(X:Cx)(st:Stmt)(t:TS):Prop :=
 ∀(pins:List (Addr×Obj))(s:Shared)(σ:St)(H:Hp)(D:Ends),Inv X pins σ H s->t D σ H->wpAny (model X.prog X.w) X.A (exec st X.env) (SP X pins D) X.xe s
def PSs(X:Cx)(st:List Stmt)(t:TS):Prop :=
 ∀(pins:List (Addr×Obj))(s:Shared)(σ:St)(H:Hp)(D:Ends),Inv X pins σ H s->t D σ H->wpAny (model X.prog X.w) X.A (execs st X.env) (SP X pins D) X.xe s
theorem thn{α:Type}{t:Sem α}{Q Q':α->Shared->Prop}{M:Model}{A:Around}{E:Value->Shared->Prop}{s:Shared}(h:wpAny M A t Q E s)(hQ:∀a s,Q a s->Q' a s):wpAny M A t Q' E s:=wpAny_mono h hQ fun _ _ x=>x
end L2
namespace L2
open PySem PySem.Spec PyProof.Rows
section
variable {X:Cx}
def tVar(i:Nat):TE:=fun σ H Q=>∃v,σ[i]?=some (some v)/\Q v H
def tC(v:V):TE:=fun _ H Q=>Q v H
theorem pe_var{i:Nat}{x:Str}{pos:Pos}(hN:X.N[i]?=some x)(hv:Vis X.env.scope x) (hd:(x==("__debug__" : Str))=false:=by decide) (hcd:(x==("__classdict__" : Str))=false:=by decide):PE X (.Name x pos) (tVar i):=by
 intro pins s σ H Q I h
 obtain⟨v,e,h⟩:=h
 obtain⟨m,hn,hl⟩:=I.loc
 obtain⟨u,r,l⟩:=hl i x v hN e hv
 have fin:EP X pins σ Q u s:=⟨v,H,I,r,h⟩
 rcases l with ⟨hk,hm⟩|⟨hk,c,hc,hcell⟩
 ·exact wpAny_Name (wpAny_loadName_local I.ok.kind hk hn hm fin) hd
 ·rcases hk with hk|hk
  ·exact wpAny_Name (wpAny_loadName_cell I.ok.kind hk hc hcell fin) hd
  ·exact wpAny_Name (wpAny_loadName_free I.ok.kind hk hc hcell fin hcd) hd
theorem pe_int{i j pos}:PE X (.Constant (.int i) j pos) (tC (.int i)):=fun _ _ _ H _ I h=>wpAny_Constant_int ⟨.int i,H,I.tok _,⟨_,rfl⟩,h⟩
theorem pe_bl{b j pos}:PE X (.Constant (.bool b) j pos) (tC (.bl b)):=fun _ _ _ H _ I h=>Constant_bool ⟨.bl b,H,I,rfl,h⟩
theorem pe_non{j pos}:PE X (.Constant .none j pos) (tC .non):=fun _ _ _ H _ I h=>Constant_none ⟨.non,H,I,rfl,h⟩
theorem pe_str{x j pos}:PE X (.Constant (.str x) j pos) (tC (.str x)):=fun _ _ _ H _ I h=>Calls.Constant_str ⟨.str x,H,I.tok _,⟨_,rfl⟩,h⟩
def Gl(X:Cx)(x:Str):Prop:=X.env.kindOf x=some .globalImplicit
theorem ld_glob{E:Value->Shared->Prop}{pins:List (Addr×Obj)}{s:Shared}{σ:St}{H:Hp}{x:Str}{u:Value}{pos:Pos}{Q:Value->Shared->Prop}(I:Inv X pins σ H s)(hg:Gl X x)(hm:X.mg x=some u)(h:Q u s)
  (hd:(x==("__debug__" : Str))=false:=by decide):wpAny (model X.prog X.w) X.A (eval (.Name x pos) X.env) Q E s :=
 Calls.Name_function_global I.ok.kind hg (Calls.loadGlobal_global (by rw[I.ok.glob];exact I.mod.glob.keeps I.bk) hm h) hd
theorem ld_blt{E:Value->Shared->Prop}{pins:List (Addr×Obj)}{s:Shared}{σ:St}{H:Hp}{x:Str}{u:Value}{pos:Pos}{Q:Value->Shared->Prop}(I:Inv X pins σ H s)(hg:Gl X x)(hm:X.mg x=none)(hv:bootBuiltins x=some u)(h:Q u s)
  (hn:x ≠ "__name__" := by decide) (hd:(x==("__debug__" : Str))=false:=by decide):wpAny (model X.prog X.w) X.A (eval (.Name x pos) X.env) Q E s:=by
 obtain⟨mb,h1,h2⟩:=I.mod.blt
 exact Calls.Name_function_global I.ok.kind hg (Calls.loadGlobal_builtin (by rw[I.ok.glob];exact I.mod.glob.keeps I.bk) hm (by rw[I.ok.blt];exact h1.keeps I.bk) ((h2 x hn).trans hv) h) hd
theorem pe_glob{x:Str}{v:V}{u:Value}{pos:Pos}(hg:Gl X x)(hm:X.mg x=some u)(r:RelV v u) (hd:(x==("__debug__" : Str))=false:=by decide):PE X (.Name x pos) (tC v) :=
 fun _ _ _ H _ I h=>ld_glob I hg hm ⟨v,H,I,r,h⟩ hd
theorem pe_bltn{x:Str}{v:V}{u:Value}{pos:Pos}(hg:Gl X x)(hm:X.mg x=none)(hv:bootBuiltins x=some u)(r:RelV v u) (hn:x ≠ "__name__" := by decide) (hd:(x==("__debug__" : Str))=false:=by decide):PE X (.Name x pos) (tC v) :=
 fun _ _ _ H _ I h=>ld_blt I hg hm hv ⟨v,H,I,r,h⟩ hn hd
variable {a b:Expr} {ta tb:TE} {pos:Pos}
def tB(t:TE):TT:=fun σ H Q=>t σ H fun x H1=>∃c,x=.bl c/\Q c H1
theorem pt_val{e:Expr}{t:TE}(h:PE X e t)(he:∀whole,isTrue e X.env whole=(do let v ← whole;standAt e.pos;holding [v] (truthy v)):=by intro _;rfl):PT X e (tB t):=by
 intro pins s σ H Q I hw
 refine isTrue_plain (thn (h pins s σ H _ I hw) fun v s1 ⟨x,H1,I1,r1,q1⟩=>?_) (he _)
 obtain⟨d,rfl,q⟩:=q1
 cases r1
 exact wpAny_truthy_bool ⟨H1,I1,q⟩
variable {tA tB':TT} {rest:List Expr}
def tAnd(t u:TT):TT:=fun σ H Q=>t σ H fun c H1=>if c=true then u σ H1 Q else Q false H1
def tOr(t u:TT):TT:=fun σ H Q=>t σ H fun c H1=>if c=true then Q true H1 else u σ H1 Q
def tNot(t:TT):TT:=fun σ H Q=>t σ H fun c H1=>Q (!c) H1
theorem pw_and1(ha:PT X a tA):PW X (.BoolOp .And [a] pos) tA:=by
 intro wh pins s σ H Q I h
 refine isTrue_and (thn (ha pins s σ H Q I h) fun c s1 e=>?_)
 cases c with
 | true=>exact isTrue_and_nil e
 | false=>exact e
theorem pw_or1(ha:PT X a tA):PW X (.BoolOp .Or [a] pos) tA:=by
 intro wh pins s σ H Q I h
 refine isTrue_or (thn (ha pins s σ H Q I h) fun c s1 e=>?_)
 cases c with
 | false=>exact isTrue_or_nil e
 | true=>exact e
theorem pw_and(ha:PT X a tA)(hb:PW X (.BoolOp .And (b::rest) pos) tB'):PW X (.BoolOp .And (a::b::rest) pos) (tAnd tA tB'):=by
 intro wh pins s σ H Q I h
 refine isTrue_and (thn (ha pins s σ H _ I h) fun c s1 ⟨H1,I1,q1⟩=>?_)
 cases c with
 | true=>exact hb wh pins s1 σ H1 Q I1 q1
 | false=>exact⟨H1,I1,q1⟩
theorem pw_or(ha:PT X a tA)(hb:PW X (.BoolOp .Or (b::rest) pos) tB'):PW X (.BoolOp .Or (a::b::rest) pos) (tOr tA tB'):=by
 intro wh pins s σ H Q I h
 refine isTrue_or (thn (ha pins s σ H _ I h) fun c s1 ⟨H1,I1,q1⟩=>?_)
 cases c with
 | true=>exact⟨H1,I1,q1⟩
 | false=>exact hb wh pins s1 σ H1 Q I1 q1
theorem pt_not(ha:PT X a tA):PT X (.UnaryOp .Not a pos) (tNot tA):=by
 intro pins s σ H Q I h
 exact isTrue_not (ha pins s σ H (fun c H1=>Q (!c) H1) I h)
def tAndV(ta tb:TE):TE:=fun σ H Q=>ta σ H fun x H1=>∃c,x=.bl c/\if c=true then tb σ H1 Q else Q (.bl false) H1
def tNotV(ta:TE):TE:=fun σ H Q=>ta σ H fun x H1=>∃c,x=.bl c/\Q (.bl (!c)) H1
theorem pe_one{op}{t:TE}(h:PE X a t):PE X (.BoolOp op [a] pos) t:=fun pins s σ H Q I hw=>BoolOp_one (h pins s σ H Q I hw)
theorem pe_and(ha:PE X a ta)(hb:PE X (.BoolOp .And (b::rest) pos) tb):PE X (.BoolOp .And (a::b::rest) pos) (tAndV ta tb):=by
 intro pins s σ H Q I h
 refine BoolOp_and (thn (ha pins s σ H _ I h) fun v s1 ⟨x,H1,I1,r1,q1⟩=>?_)
 obtain⟨c,rfl,q1⟩:=q1
 cases r1
 refine wpAny_truthy_bool ?_
 cases c with
 | true=>exact hb pins s1 σ H1 Q I1 q1
 | false=>exact⟨.bl false,H1,I1,rfl,q1⟩
theorem pe_not(ha:PE X a ta):PE X (.UnaryOp .Not a pos) (tNotV ta):=by
 intro pins s σ H Q I h
 refine UnaryOp_ (thn (ha pins s σ H _ I h) fun v s1 ⟨x,H1,I1,r1,q1⟩=>?_)
 obtain⟨c,rfl,q1⟩:=q1
 cases r1
 exact not_of (wpAny_truthy_bool ⟨.bl (!c),H1,I1,rfl,q1⟩)
end
end L2
namespace L2
open PySem PySem.Spec PyProof.Rows
def SqL(K:PySem.W.Frag)(H:Hp)(a:Addr)(xs:List V):Prop :=
 Rd H a (.lst xs) ∨
  ∃(o:Obj) (its:Array Value) (n:Nat),K.lookup a=some o/\o.cls=.type "list" /\ o.dict=none/\o.data=.seq its n/\its.size<=sizeLine/\Vals xs its.toList
def SqT(K:PySem.W.Frag)(H:Hp)(a:Addr)(xs:List V):Prop :=
 Rd H a (.tup xs) ∨
  ∃(o:Obj) (its:Array Value) (n:Nat),K.lookup a=some o/\o.cls=.type "tuple" /\ o.data=.seq its n/\its.size<=sizeLine/\Vals xs its.toList
def absV:Value->Option V
 | .none=>some .non
 | .bool b=>some (.bl b)
 | .int i _=>some (.int i)
 | .str x _=>some (.str x)
 | .bytes b _=>some (.byt b)
 | .float b _=>some (.flt b)
 | .ref a=>some (.ref a)
 | .type n=>some (.ty n)
 | _=>none
theorem RelV.abs{x:V}{u:Value}(r:RelV x u):absV u=some x:=by
 cases x with
 | non=>cases r;rfl
 | bl _=>cases r;rfl
 | int _=>obtain⟨t,rfl⟩:=r;rfl
 | str _=>obtain⟨t,rfl⟩:=r;rfl
 | byt _=>obtain⟨t,rfl⟩:=r;rfl
 | flt _=>obtain⟨t,rfl⟩:=r;rfl
 | ref _=>cases r;rfl
 | ty _=>cases r;rfl
theorem RelV.inj{x y:V}{u:Value}(r:RelV x u)(q:RelV y u):x=y:=Option.some.inj (r.abs.symm.trans q.abs)
theorem Vals.inj:∀{xs ys:List V}{us:List Value},Vals xs us->Vals ys us->xs=ys
 | _,_,_,.nil,.nil=>rfl
 | _,_,_,.cons r t,.cons r' t'=>by rw[r.inj r',Vals.inj t t']
section
variable {X:Cx} {pins:List (Addr×Obj)} {σ:St} {H:Hp} {s:Shared} {a:Addr} {xs ys:List V}
theorem SqL.of{K:PySem.W.Frag}(h:H a=some (.lst xs)):SqL K H a xs:=.inl (.inl h)
theorem SqT.of{K:PySem.W.Frag}(h:H a=some (.tup xs)):SqT K H a xs:=.inl (.inl h)
theorem Inv.list(I:Inv X pins σ H s)(h:SqL X.K H a xs):∃its:List Value,Vals xs its/\PlainL s.heap a its.toArray/\xs.length<=sizeLine:=by
 rcases h with h|⟨o,its,n,hk,hc,hd,hs,hz,r⟩
 ·obtain⟨z,its,n,r,e⟩:=h.ok I.hok
  exact⟨its,r,⟨_,n,e,rfl,rfl,rfl⟩,z⟩
 ·refine⟨its.toList,r,⟨o,n,I.kIn a o hk,hc,hd,by simpa using hs⟩,?_⟩
  have e:=r.length
  simp only[Array.length_toList]at e
  omega
theorem Inv.tuple(I:Inv X pins σ H s)(h:SqT X.K H a xs):∃its:List Value,Vals xs its/\IsTup s.heap a its.toArray/\xs.length<=sizeLine:=by
 rcases h with h|⟨o,its,n,hk,hc,hs,hz,r⟩
 ·obtain⟨z,its,r,p⟩:=h.ok I.hok
  exact⟨its,r,p,z⟩
 ·refine⟨its.toList,r,⟨o,I.kIn a o hk,hc,n,by simpa using hs⟩,?_⟩
  have e:=r.length
  simp only[Array.length_toList]at e
  omega
theorem Inv.list_inj(I:Inv X pins σ H s)(h:SqL X.K H a xs)(h':SqL X.K H a ys):xs=ys:=by
 obtain⟨its,r,⟨o,n,e,_,_,d⟩,_⟩:=I.list h
 obtain⟨its',r',⟨o',n',e',_,_,d'⟩,_⟩:=I.list h'
 rw[e]at e';cases e'
 rw[d]at d'
 injection d' with d1 _
 have:its=its':=by simpa using congrArg Array.toList d1
 subst this
 exact r.inj r'
theorem Inv.tuple_inj(I:Inv X pins σ H s)(h:SqT X.K H a xs)(h':SqT X.K H a ys):xs=ys:=by
 obtain⟨its,r,⟨o,e,_,n,d⟩,_⟩:=I.tuple h
 obtain⟨its',r',⟨o',e',_,n',d'⟩,_⟩:=I.tuple h'
 rw[e]at e';cases e'
 rw[d]at d'
 injection d' with d1 _
 have:its=its':=by simpa using congrArg Array.toList d1
 subst this
 exact r.inj r'
end
abbrev Cx.wish(X:Cx)(E:Value->Shared->Prop):Cx:={X with xe:=E}
abbrev Cx.nox(X:Cx):Cx:=X.wish fun _ _=>False
theorem Cx.Ok.wish{X:Cx}(ok:X.Ok)(E:Value->Shared->Prop):(X.wish E).Ok :=
 ⟨ok.mod,ok.kind,ok.glob,ok.blt,ok.above,ok.inj,ok.has,ok.cab,ok.hd,ok.frames,ok.stk,ok.exf,ok.bs,ok.bsz,ok.noex,ok.exfs,ok.funs,ok.frf⟩
theorem Cx.Ok.unwish{X:Cx}{E:Value->Shared->Prop}(ok:(X.wish E).Ok):X.Ok :=
 ⟨ok.mod,ok.kind,ok.glob,ok.blt,ok.above,ok.inj,ok.has,ok.cab,ok.hd,ok.frames,ok.stk,ok.exf,ok.bs,ok.bsz,ok.noex,ok.exfs,ok.funs,ok.frf⟩
section
variable {X:Cx} {pins:List (Addr×Obj)} {σ:St} {H:Hp} {s:Shared} {E:Value->Shared->Prop}
theorem Inv.wish(I:Inv X pins σ H s)(E:Value->Shared->Prop):Inv (X.wish E) pins σ H s:=⟨I.ok.wish E,I.os,I.bare,I.base,I.loc,I.cell,I.free,I.freeC,I.pin,I.hok,I.len⟩
theorem Inv.unwish(I:Inv (X.wish E) pins σ H s):Inv X pins σ H s:=⟨I.ok.unwish,I.os,I.bare,I.base,I.loc,I.cell,I.free,I.freeC,I.pin,I.hok,I.len⟩
theorem SP.unwish{D:Ends}{f:Flow}{s':Shared}(h:SP (X.wish E) pins D f s'):SP X pins D f s':=by
 cases f with
 | next=>obtain⟨σ',H',I,q⟩:=h;exact⟨σ',H',I.unwish,q⟩
 | brk=>obtain⟨σ',H',I,q⟩:=h;exact⟨σ',H',I.unwish,q⟩
 | cont=>obtain⟨σ',H',I,q⟩:=h;exact⟨σ',H',I.unwish,q⟩
 | ret u=>obtain⟨v,σ',H',I,r,q⟩:=h;exact⟨v,σ',H',I.unwish,r,q⟩
theorem PE.nox{e:Expr}{t:TE}(h:PE X.nox e t):PE X e t:=fun pins s σ H Q I hw =>
 wpAny_mono (h pins s σ H Q (I.wish _) hw) (fun _ _ ⟨v,H',I',r,q⟩=>⟨v,H',I'.unwish,r,q⟩) fun _ _ z=>False.elim z
theorem PT.nox{e:Expr}{t:TT}(h:PT X.nox e t):PT X e t:=fun pins s σ H Q I hw =>
 wpAny_mono (h pins s σ H Q (I.wish _) hw) (fun _ _ ⟨H',I',q⟩=>⟨H',I'.unwish,q⟩) fun _ _ z=>False.elim z
theorem PSs.nox{st:List Stmt}{t:TS}(h:PSs X.nox st t):PSs X st t:=fun pins s σ H D I hw =>
 wpAny_mono (h pins s σ H D (I.wish _) hw) (fun _ _ q=>q.unwish) fun _ _ z=>False.elim z
end
section
variable {X:Cx} {st:Stmt} {rest:List Stmt} {t u:TS} {e:Expr} {te:TE} {pos:Pos}
def tNext:TS:=fun D σ H=>D.nx σ H
def tSeq(t u:TS):TS:=fun D σ H=>t {D with nx:=u D} σ H
theorem pss_nil:PSs X [] tNext:=fun _ _ σ H _ I h=>wpAny_execs_nil ⟨σ,H,I,h⟩
theorem pss_cons(h1:PS X st t)(h2:PSs X rest u):PSs X (st::rest) (tSeq t u):=by
 intro pins s σ H D I h
 refine wpAny_execs_cons (thn (h1 pins s σ H {D with nx:=u D} I h) fun f s1 q=>?_)
 cases f with
 | next =>
  obtain⟨σ',H',I',q⟩:=q
  exact h2 pins s1 σ' H' D I' q
 | ret v=>exact q
 | brk=>exact q
 | cont=>exact q
theorem pss_one(h1:PS X st t):PSs X [st] t:=by
 intro pins s σ H D I h
 refine wpAny_execs_cons (thn (h1 pins s σ H D I h) fun f s1 q=>?_)
 cases f with
 | next=>exact wpAny_execs_nil q
 | ret v=>exact q
 | brk=>exact q
 | cont=>exact q
theorem Inv.quiet{pins:List (Addr×Obj)}{σ:St}{H:Hp}{s:Shared}(I:Inv X pins σ H s):interactive X.env=false:=by simp[interactive,I.ok.kind]
def tDrop(te:TE):TS:=fun D σ H=>te σ H fun _ H1=>D.nx σ H1
theorem ps_expr(he:PE X e te)(hs:swapsWith e none pos.line X.env=pure false:=by rfl):PS X (.Expr e pos) (tDrop te):=by
 intro pins s σ H D I h
 exact wpAny_Expr_any (thn (he pins s σ H _ I h) fun v s1 ⟨x,H1,I1,r1,q1⟩=>⟨σ,H1,I1,q1⟩) I.quiet hs
def tRet(te:TE):TS:=fun D σ H=>te σ H D.rt
theorem ps_ret(he:PE X e te):PS X (.Return (some e) pos) (tRet te):=by
 intro pins s σ H D I h
 exact wpAny_Return_some (thn (he pins s σ H _ I h) fun v s1 ⟨x,H1,I1,r1,q1⟩=>⟨x,σ,H1,I1,r1,q1⟩)
def tIfS(c:TT)(t u:TS):TS:=fun D σ H=>c σ H fun b H1=>if b=true then t D σ H1 else u D σ H1
theorem ps_if{c:Expr}{a b:List Stmt}{tc:TT}(hc:PT X c tc)(ha:PSs X a t)(hb:PSs X b u):PS X (.If c a b pos) (tIfS tc t u):=by
 intro pins s σ H D I h
 refine wpAny_If (thn (hc pins s σ H _ I h) fun d s1 ⟨H1,I1,q1⟩=>?_)
 cases d with
 | true=>exact ha pins s1 σ H1 D I1 q1
 | false=>exact hb pins s1 σ H1 D I1 q1
end
abbrev TG:=V->St->Hp->(St->Hp->Prop)->Prop
abbrev TGs:=List V->St->Hp->(St->Hp->Prop)->Prop
def PG(X:Cx)(target:Expr)(t:TG):Prop :=
 ∀(pins:List (Addr×Obj))(s:Shared)(σ:St)(H:Hp)(v:V)(u:Value)(Q:St->Hp->Prop),Inv X pins σ H s->RelV v u->t v σ H Q →
  wpAny (model X.prog X.w) X.A (assign target X.env u) (fun _ s'=>∃σ' H',Inv X pins σ' H' s'/\Q σ' H') X.xe s
def PGs(X:Cx)(ts:List Expr)(t:TGs):Prop :=
 ∀(pins:List (Addr×Obj))(s:Shared)(σ:St)(H:Hp)(vs:List V)(us:List Value)(Q:St->Hp->Prop),Inv X pins σ H s->Vals vs us->t vs σ H Q →
  wpAny (model X.prog X.w) X.A (assignInOrder ((assignEach ts X.env).map (·.2)) us) (fun _ s'=>∃σ' H',Inv X pins σ' H' s'/\Q σ' H') X.xe s
section
variable {X:Cx} {pos:Pos}
def gName(i:Nat):TG:=fun v σ H Q=>Q (σ.set i (some v)) H
theorem pg_name{i:Nat}{x:Str}(hN:X.N.Nodup)(hi:X.N[i]?=some x)(hx:Loc X.env.scope x)(hf:X.fn x=true∨X.env.scope.names.lookup x=some .local:=by first|exact .inl rfl|exact .inr rfl|assumption):PG X (.Name x pos) (gName i):=by
 intro pins s σ H v u Q I r h
 exact wpAny_assign_Name (store_ok I hN hi hx r (fun s' I'=>⟨_,H,I',h⟩) hf)
def gNil:TGs:=fun vs σ H Q=>vs=[]/\Q σ H
def gCons(t:TG)(u:TGs):TGs:=fun vs σ H Q=>∃v r,vs=v::r/\t v σ H fun σ' H'=>u r σ' H' Q
theorem pgs_nil:PGs X [] gNil:=by
 intro pins s σ H vs us Q I r h
 obtain⟨e,h⟩:=h
 subst e
 cases r
 exact assignInOrder_nil ⟨σ,H,I,h⟩
theorem pgs_cons{e:Expr}{es:List Expr}{t:TG}{u:TGs}(h1:PG X e t)(h2:PGs X es u)
  (hs:(assignEach (e::es) X.env).map (·.2)=assign e X.env::(assignEach es X.env).map (·.2):=by rfl):PGs X (e::es) (gCons t u):=by
 intro pins s σ H vs us Q I r h
 obtain⟨v,vr,e1,h⟩:=h
 subst e1
 cases r with
 | cons r rr =>
  rw[hs]
  refine assignInOrder_cons (thn (h1 pins s σ H _ _ _ I r h) fun _ s1 ⟨σ1,H1,I1,q1⟩=>?_)
  exact h2 pins s1 σ1 H1 _ _ Q I1 rr q1
def tAsg(te:TE)(g:TG):TS:=fun D σ H=>te σ H fun x H1=>g x σ H1 D.nx
theorem ps_asg{tg e:Expr}{te:TE}{g:TG}(he:PE X e te)(hg:PG X tg g)(hs:swapsWithSole [tg] e pos.line X.env=pure false:=by rfl)(hw:swappedStores [tg] e X.env=pure none:=by rfl)
  (h1:(assignEach [tg] X.env).map (·.2)=[assign tg X.env]:=by rfl):PS X (.Assign [tg] e pos) (tAsg te g):=by
 intro pins s σ H D I h
 refine wpAny_Assign_stores (thn (he pins s σ H _ I h) fun v s1 ⟨x,H1,I1,r1,q1⟩=>?_) hs hw
 rw[h1]
 exact thn (hg pins s1 σ H1 x v _ I1 r1 q1) fun _ s2 q=>q
theorem ps_set{i:Nat}{x:Str}{e:Expr}{te:TE}{pos':Pos}(hN:X.N.Nodup)(hi:X.N[i]?=some x)(hx:Loc X.env.scope x)(he:PE X e te)(hs:swapsWith e (some (.Name x pos')) pos.line X.env=pure false:=by rfl)(hf:X.fn x=true∨X.env.scope.names.lookup x=some .local:=by first|exact .inl rfl|exact .inr rfl|assumption) :
  PS X (.Assign [.Name x pos'] e pos) (tAsg te (gName i)):=by
 intro pins s σ H D I h
 refine wpAny_Assign_Name (thn (he pins s σ H _ I h) fun v s1 ⟨y,H1,I1,r1,q1⟩=>?_) hs
 exact store_ok I1 hN hi hx r1 (fun s2 I2=>⟨_,H1,I2,q1⟩) hf
end
section
variable {X:Cx} {pos:Pos}
end
structure It where
 go:Nat->Hp->Prop
 yld:Nat->Hp->V->Hp->Prop
 stop:Nat->Hp->Prop
def FpOk(X:Cx)(pins:List (Addr×Obj))(H:Hp)(b:Addr):Prop :=
 H b=none/\b≠X.env.locals/\b∉X.fs/\(b∈X.ex∨X.s₀.heap.objs.size<=b)/\(∀x c,X.env.cells.lookup x=some c->c≠b)/\∀p∈X.pn++pins,p.1≠b
theorem Inv.fpOk{X:Cx}{pins:List (Addr×Obj)}{σ:St}{H H':Hp}{s:Shared}{b:Addr}(I:Inv X pins σ H s)(hb:s.heap.objs.size<=b)(hn:H' b=none):FpOk X pins H' b:=by
 refine⟨hn,Nat.ne_of_gt (Nat.lt_of_lt_of_le I.lt hb),I.nofs hb,.inr (Nat.le_trans I.sz hb),fun x c e z=>?_,fun p hp z=>?_⟩
 ·obtain⟨v,q⟩:=I.cell x c e
  exact absurd (Nat.lt_of_lt_of_le q.lt (by rw[z];exact hb)) (Nat.lt_irrefl _)
 ·exact absurd (Nat.lt_of_lt_of_le (Heap.lt_size (I.pin p hp).1) (by rw[z];exact hb)) (Nat.lt_irrefl _)
structure Turn(P:Program)(w:World)(K:PySem.W.Frag)(tg:Expr)(J:It)(fp:List Addr)(it:Addr)(tn:Nat->Heap->Prop):Prop where
 mem:it∈fp
 obj:∀i h,tn i h->∀b∈fp,∃o,h.get? b=some o/\∀v,o.data ≠ .cell v
 keep:∀i h h',tn i h->(∀b∈fp,∀o,h.get? b=some o->h'.get? b=some o)->tn i h'
 item:∀(X:Cx),X.prog=P->X.w=w->X.K=K->X.calm=true->∀(i:Nat)(pins:List (Addr×Obj))(s:Shared)(σ:St)(H:Hp)(E:Value->Shared->Prop),Inv X pins σ H s->(∀b∈fp,FpOk X pins H b)->tn i s.heap->J.go i H →
  wpAny (model P w) X.A (pyNext (.ref it)) (fun r s1=>∃u,r=some u ∧
   wpAny (model P w) X.A (letOwnedTupleGo tg (.ref it) u) (fun _ s2=>∃x H',Inv X pins σ H' s2/\RelV x u/\J.yld i H x H'/\tn (i + 1) s2.heap/\∀b∈fp,H' b=none) E s1) E s
 done:∀(X:Cx),X.prog=P->X.w=w->X.K=K->X.calm=true->∀(i:Nat)(pins:List (Addr×Obj))(s:Shared)(σ:St)(H:Hp)(E:Value->Shared->Prop),Inv X pins σ H s->(∀b∈fp,FpOk X pins H b)->tn i s.heap->J.stop i H →
  wpAny (model P w) X.A (pyNext (.ref it)) (fun r s1=>r=none/\Inv X pins σ H s1) E s
 self:∀(A:Around)(i:Nat)(s:Shared)(Q:Value->Shared->Prop)(E:Value->Shared->Prop),tn i s.heap->Q (.ref it) s->wpAny (model P w) A (pyIter (.ref it)) Q E s
abbrev TI:=St->Hp->(It->Hp->Prop)->Prop
def PIE(X:Cx)(pins:List (Addr×Obj))(σ:St)(tg:Expr)(R:It->Hp->Prop)(itv:Value)(s2:Shared):Prop :=
 ∃(it:Addr) (fp:List Addr) (tn:Nat->Heap->Prop) (J:It) (H':Hp),itv=.ref it/\Inv X pins σ H' s2/\Turn X.prog X.w X.K tg J fp it tn/\tn 0 s2.heap/\(∀b∈fp,FpOk X pins H' b)/\R J H'
def PI(X:Cx)(tg iter:Expr)(wi:TI):Prop :=
 ∀(pins:List (Addr×Obj))(s:Shared)(σ:St)(H:Hp)(R:It->Hp->Prop),Inv X pins σ H s->wi σ H R →
  wpAny (model X.prog X.w) X.A (eval iter X.env) (fun v s1=>wpAny (model X.prog X.w) X.A (pyIter v) (PIE X pins σ tg R) X.xe s1) X.xe s
theorem go_of {M:Model} {A:Around} {E:Value->Shared->Prop} {s:Shared} {tg:Expr} {it:Addr} {u:Value} {o:Obj} {n:String} {vs:Array Value} {Q:Unit->Shared->Prop} (ho:s.heap.get? it=some o) (hc:o.cls=.type n) (hd:o.data=.fields vs)
    (hn:["enumerate", "zip", "dict_itemiterator", "dict_reverseitemiterator", "odict_iterator", "itertools.zip_longest", "itertools.pairwise"].contains n=false) (hQ:Q () s):wpAny M A (letOwnedTupleGo tg (.ref it) u) Q E s:=by
  unfold letOwnedTupleGo
  cases tg <;> first
    | exact wpAny_pure hQ
    | (cases u<;>first
        | exact wpAny_pure hQ
        | (refine wpAny_bind (wpAny_load ho ?_)
           rw[hc,hd]
           show wpAny M A (if (["enumerate", "zip", "dict_itemiterator", "dict_reverseitemiterator", "odict_iterator", "itertools.zip_longest", "itertools.pairwise"].contains n&&vs[0]?==some (rawInt _))=true then _ else _) Q E s
           rw[if_neg (by intro h;rw[hn,Bool.false_and]at h;cases h)]
           exact wpAny_pure hQ))
def Itl(K:PySem.W.Frag)(a:Addr):It :=
 ⟨fun i H=>∃xs x,SqL K H a xs/\xs[i]?=some x,fun i H x H'=>H'=H/\∀xs,SqL K H a xs->xs[i]?=some x,fun i H=>∃xs,SqL K H a xs/\xs.length<=i⟩
def Itt(K:PySem.W.Frag)(a:Addr):It :=
 ⟨fun i H=>∃xs x,SqT K H a xs/\xs[i]?=some x,fun i H x H'=>H'=H/\∀xs,SqT K H a xs->xs[i]?=some x,fun i H=>∃xs,SqT K H a xs/\xs.length<=i⟩
def Itr(lo:Int)(n:Nat):It:=⟨fun i _=>i < n,fun i H x H'=>H'=H/\x=.int (lo + i),fun i _=>n<=i⟩
theorem turn_list{P:Program}{w:World}{K:PySem.W.Frag}{tg:Expr}(a it:Addr):Turn P w K tg (Itl K a) [it] it (fun i h=>h.IsListIter it a i) where
 mem:=by simp
 obj:=fun i h st b hb=>by
  have e:b=it:=by simpa using hb
  subst e
  obtain⟨o,e,c,d⟩:=st
  exact⟨o,e,fun v z=>by rw[d]at z;cases z⟩
 keep:=fun i h h' st k=>st.at fun o e=>k it (by simp) o e
 item:=by
  intro X hP hw hK hc i pins s σ H E I hf st hg
  subst hP hw hK
  obtain⟨xs,x,hq,hx⟩:=hg
  obtain⟨its,rv,p,hz⟩:=I.list hq
  obtain⟨u,hu,ru⟩:=rv.get hx
  obtain⟨f0,f1,f2,f3,f4,f5⟩:=hf it (by simp)
  refine wpAny_pyNext_list_item st p.isList (x:=u) (by simpa using hu) fun h' st' sb=>?_
  have I1:Inv X pins σ H {s with heap:=h' }:=I.turned (t':=s.toks) (fun b o hb e=>(sb.2 b hb).trans e) f0 f1 f3 f4 f5
  obtain⟨o,e,c,d⟩:=id st'
  exact⟨u,rfl,go_of (s:={s with heap:=h' }) e c d (by decide) ⟨x,H,I1,ru,⟨rfl,fun ys hy=>by rw[I.list_inj hy hq];exact hx⟩,st',fun b hb=>(hf b hb).1⟩⟩
 done:=by
  intro X hP hw hK hc i pins s σ H E I hf st hg
  subst hP hw hK
  obtain⟨xs,hq,hx⟩:=hg
  obtain⟨its,rv,p,hz⟩:=I.list hq
  obtain⟨f0,f1,f2,f3,f4,f5⟩:=hf it (by simp)
  have hl:=rv.length
  exact wpAny_pyNext_list_end (I.ok.hd hc) st p.isList (by simp;omega) fun h' eb=>⟨rfl,I.turned (t':=s.toks) (fun b o hb e=>eb b o hb e) f0 f1 f3 f4 f5⟩
 self:=fun _ _ _ _ _ st h=>wpAny_pyIter_listiter st h
theorem turn_tuple{P:Program}{w:World}{K:PySem.W.Frag}{tg:Expr}(a it:Addr):Turn P w K tg (Itt K a) [it] it (fun i h=>h.IsTupleIter it a i) where
 mem:=by simp
 obj:=fun i h st b hb=>by
  have e:b=it:=by simpa using hb
  subst e
  obtain⟨o,e,c,d⟩:=st
  exact⟨o,e,fun v z=>by rw[d]at z;cases z⟩
 keep:=fun i h h' st k=>st.at fun o e=>k it (by simp) o e
 item:=by
  intro X hP hw hK hc i pins s σ H E I hf st hg
  subst hP hw hK
  obtain⟨xs,x,hq,hx⟩:=hg
  obtain⟨its,rv,p,hz⟩:=I.tuple hq
  obtain⟨u,hu,ru⟩:=rv.get hx
  obtain⟨f0,f1,f2,f3,f4,f5⟩:=hf it (by simp)
  refine wpAny_pyNext_tuple_item st (show s.heap.IsTuple a its.toArray from p) (x:=u) (by simpa using hu) fun h' st' sb=>?_
  have I1:Inv X pins σ H {s with heap:=h' }:=I.turned (t':=s.toks) (fun b o hb e=>(sb.2 b hb).trans e) f0 f1 f3 f4 f5
  obtain⟨o,e,c,d⟩:=id st'
  exact⟨u,rfl,go_of (s:={s with heap:=h' }) e c d (by decide) ⟨x,H,I1,ru,⟨rfl,fun ys hy=>by rw[I.tuple_inj hy hq];exact hx⟩,st',fun b hb=>(hf b hb).1⟩⟩
 done:=by
  intro X hP hw hK hc i pins s σ H E I hf st hg
  subst hP hw hK
  obtain⟨xs,hq,hx⟩:=hg
  obtain⟨its,rv,p,hz⟩:=I.tuple hq
  obtain⟨f0,f1,f2,f3,f4,f5⟩:=hf it (by simp)
  have hl:=rv.length
  exact wpAny_pyNext_tuple_end (I.ok.hd hc) st (show s.heap.IsTuple a its.toArray from p) (by simp;omega) fun h' eb=>⟨rfl,I.turned (t':=s.toks) (fun b o hb e=>eb b o hb e) f0 f1 f3 f4 f5⟩
 self:=fun _ _ _ _ _ st h=>wpAny_pyIter_tupleiter st h
theorem turn_range{P:Program}{w:World}{K:PySem.W.Frag}{tg:Expr}(it:Addr)(lo:Int)(n:Nat):Turn P w K tg (Itr lo n) [it] it (fun i h=>IsRangeIter h it (lo + (i:Nat) * 1) ((n:Int) - (i:Nat)) 1) where
 mem:=by simp
 obj:=fun i h st b hb=>by
  have e:b=it:=by simpa using hb
  subst e
  exact⟨_,st,fun v z=>by
   have z':Data.fields _=Data.cell v:=z
   cases z'⟩
 keep:=fun i h h' st k=>k it (by simp) _ st
 item:=by
  intro X hP hw hK hc i pins s σ H E I hf st hg
  subst hP hw hK
  obtain⟨f0,f1,f2,f3,f4,f5⟩:=hf it (by simp)
  have W:=Walks.range (prog:=X.prog) (w:=X.w) (I.ok.hd hc) it lo 1 n
  refine W.item i s _ _ hg st fun v h' tk hv st' kk=>?_
  obtain⟨t,rfl⟩:=hv
  have I1:Inv X pins σ H {s with heap:=h',toks:=tk}:=I.turned (fun b o hb e=>kk b o (by simpa using hb) e) f0 f1 f3 f4 f5
  refine⟨_,rfl,go_of (s:={s with heap:=h',toks:=tk}) (n := "range_iterator") st' rfl rfl (by decide) ⟨.int (lo + i),H,I1,⟨t,?_⟩,⟨rfl,rfl⟩,st',fun b hb=>(hf b hb).1⟩⟩
  rw[Int.mul_one]
 done:=by
  intro X hP hw hK hc i pins s σ H E I hf st hg
  subst hP hw hK
  obtain⟨f0,f1,f2,f3,f4,f5⟩:=hf it (by simp)
  exact wpAny_pyNext_range_end (I.ok.hd hc) st (by have:n<=i:=hg;omega) fun h' eb=>⟨rfl,I.turned (t':=s.toks) (fun b o hb e=>eb b o hb e) f0 f1 f3 f4 f5⟩
 self:=fun _ _ _ _ _ st h=>wpAny_pyIter_rangeiter st h
end L2
namespace L2
open PySem PySem.Spec PyProof.Rows
section
variable {X:Cx} {tg:Expr}
def iList(K:PySem.W.Frag)(tl:TE):TI:=fun σ H R=>tl σ H fun x H1=>∃a,x=.ref a/\(∃xs,SqL K H1 a xs)/\R (Itl K a) H1
def iTup(K:PySem.W.Frag)(tl:TE):TI:=fun σ H R=>tl σ H fun x H1=>∃a,x=.ref a/\(∃xs,SqT K H1 a xs)/\R (Itt K a) H1
theorem pi_list{l:Expr}{tl:TE}(hl:PE X l tl):PI X tg l (iList X.K tl):=by
 intro pins s σ H R I h
 refine thn (hl pins s σ H _ I h) fun v s1 ⟨x,H1,I1,r1,q1⟩=>?_
 obtain⟨a,e,⟨xs,hq⟩,q⟩:=q1
 subst e
 cases r1
 obtain⟨its,rv,p,hz⟩:=I1.list hq
 refine wpAny_pyIter_list p.isList ?_
 refine⟨s1.heap.objs.size,[s1.heap.objs.size],_,_,H1,rfl,I1.kept (t':=s1.toks) fun b o e=>Heap.get?_push_of_some _ e,turn_list a _,⟨_,Heap.get?_push_size _ rfl,rfl,rfl⟩,fun b hb=>?_,q⟩
 have e:b=s1.heap.objs.size:=by simpa using hb
 subst e
 exact I1.fpOk (Nat.le_refl _) (I1.hok.fresh (Nat.le_refl _))
theorem pi_tup{l:Expr}{tl:TE}(hl:PE X l tl):PI X tg l (iTup X.K tl):=by
 intro pins s σ H R I h
 refine thn (hl pins s σ H _ I h) fun v s1 ⟨x,H1,I1,r1,q1⟩=>?_
 obtain⟨a,e,⟨xs,hq⟩,q⟩:=q1
 subst e
 cases r1
 obtain⟨its,rv,p,hz⟩:=I1.tuple hq
 refine wpAny_pyIter_tuple (show s1.heap.IsTuple a its.toArray from p) ?_
 refine⟨s1.heap.objs.size,[s1.heap.objs.size],_,_,H1,rfl,I1.kept (t':=s1.toks) fun b o e=>Heap.get?_push_of_some _ e,turn_tuple a _,⟨_,Heap.get?_push_size _ rfl,rfl,rfl⟩,fun b hb=>?_,q⟩
 have e:b=s1.heap.objs.size:=by simpa using hb
 subst e
 exact I1.fpOk (Nat.le_refl _) (I1.hok.fresh (Nat.le_refl _))
theorem range_it{pins:List (Addr×Obj)}{σ:St}{H:Hp}{s:Shared}{R:It->Hp->Prop}{E:Value->Shared->Prop}{lo hi:Int}{t u v:Tok}{tk:Nat}(I:Inv X pins σ H s)(h1:-(2 ^ 62)<=lo)(h2:lo < 2 ^ 62)(h3:-(2 ^ 62)<=hi)(h4:hi < 2 ^ 62)
  (q:R (Itr lo (hi - lo).toNat) H):wpAny (model X.prog X.w) X.A (pyIter (.ref s.heap.objs.size)) (PIE X pins σ tg R) E {s with heap:=s.heap.push {cls:=.type "range", data:=.fields #[.int lo t,.int hi u,.int 1 v]},toks:=tk}:=by
 refine wpAny_pyIter_range (IsRange.new ..) (small_one h1 h2 h3 h4) ?_
 have I1:Inv X pins σ H {s with heap:=s.heap.push {cls:=.type "range", data:=.fields #[.int lo t,.int hi u,.int 1 v]},toks:=tk}:=I.kept fun b o e=>Heap.get?_push_of_some _ e
 refine⟨(s.heap.push {cls:=.type "range", data:=.fields #[.int lo t,.int hi u,.int 1 v]}).objs.size,[(s.heap.push {cls:=.type "range", data:=.fields #[.int lo t,.int hi u,.int 1 v]}).objs.size],_,_,H,rfl,
  I1.kept (t':=tk) fun b o e=>Heap.get?_push_of_some _ e,turn_range _ lo (hi - lo).toNat,?_,fun b hb=>?_,q⟩
 ·have e1:lo + ((0:Nat):Int) * 1=lo:=by simp
  have e2:(((hi - lo).toNat:Nat):Int) - ((0:Nat):Int)=Builtin.Range.rangeSize lo hi 1:=by rw[rangeSize_one];split<;>omega
  show IsRangeIter _ _ (lo + ((0:Nat):Int) * 1) ((((hi - lo).toNat:Nat):Int) - ((0:Nat):Int)) 1
  rw[e1,e2]
  exact Heap.get?_push_size _ rfl
 ·have e:b=(s.heap.push {cls:=.type "range", data:=.fields #[.int lo t,.int hi u,.int 1 v]}).objs.size:=by simpa using hb
  subst e
  exact I1.fpOk (Nat.le_refl _) (I1.hok.fresh (Nat.le_refl _))
def iRng1(ta:TA):TI:=fun σ H R=>ta σ H fun vs H1=>∃j:Int,vs=[.int j] /\ -(2 ^ 62)<=j/\j < 2 ^ 62/\R (Itr 0 j.toNat) H1
theorem pi_range1{a:Expr}{ta:TA}{p pos:Pos} (hg:Gl X "range") (hm:X.mg "range" = none) (ha:PA X [a] ta) (hs:starEach [a] X.env=[(false,eval a X.env)]:=by rfl):PI X tg (.Call (.Name "range" p) [a] [] pos) (iRng1 ta):=by
 intro pins s σ H R I h
 refine Call_ (ld_blt I hg hm boot_range (PyProof.Rows.callWith_type1 (thn (ha pos pins s σ H _ I h) fun us s1 ⟨vs,H1,I1,r1,q1⟩=>?_) hs rfl))
 obtain⟨j,e,q1,q2,q⟩:=q1
 subst e
 cases r1 with
 | cons r rr =>
  cases rr
  obtain⟨t,rfl⟩:=r
  exact call_range_1 (range_it I1 (by omega) (by omega) q1 q2 (by simpa using q))
def tFor(wi:TI)(g:TG)(tb:TS):TS:=fun D σ H=>wi σ H fun J H1=>∃W:Nat->Nat->St->Hp->Prop,(∃m,W 0 m σ H1)/\∀i m σ H,W i m σ H →
 (J.stop i H/\D.nx σ H)∨(J.go i H/\∃N:St->Hp->Prop,(∀σ' H',N σ' H'->∃m',m' < m/\W (i + 1) m' σ' H')/\∀x H',J.yld i H x H'->g x σ H' fun σ2 H2=>tb {D with nx:=N,ct:=N,bk:=D.nx} σ2 H2)
def pinsAt(fp:List Addr)(h:Heap):List (Addr×Obj):=fp.filterMap fun b=>(h.get? b).map fun o=>(b,o)
theorem mem_pinsAt{fp:List Addr}{h:Heap}{b:Addr}{o:Obj}(hb:b∈fp)(e:h.get? b=some o):(b,o)∈pinsAt fp h:=List.mem_filterMap.mpr ⟨b,hb,by rw[e];rfl⟩
theorem of_pinsAt{fp:List Addr}{h:Heap}{p:Addr×Obj}(hp:p∈pinsAt fp h):p.1∈fp/\h.get? p.1=some p.2:=by
 obtain⟨b,hb,e⟩:=List.mem_filterMap.mp hp
 cases q:h.get? b with
 | none=>rw[q]at e;cases e
 | some o =>
  rw[q]at e
  have e':(b,o)=p:=Option.some.inj e
  subst e'
  exact⟨hb,q⟩
theorem Inv.pinned{pins:List (Addr×Obj)}{σ:St}{H:Hp}{s:Shared}{fp:List Addr}(I:Inv X pins σ H s)(hf:∀b∈fp,FpOk X pins H b)(ho:∀b∈fp,∃o,s.heap.get? b=some o/\∀v,o.data ≠ .cell v):Inv X (pins++pinsAt fp s.heap) σ H s :=
 I.pins_of fun p hp=>(List.mem_append.mp hp).elim (fun z=>I.pin p (List.mem_append_right _ z)) fun z=>by
  obtain⟨hb,e⟩:=of_pinsAt z
  obtain⟨f0,f1,f2,_⟩:=hf p.1 hb
  obtain⟨o,e',d⟩:=ho p.1 hb
  rw[e]at e';cases e'
  exact⟨e,f0,f1,f2,d⟩
theorem Inv.unpinned{pins pl:List (Addr×Obj)}{σ:St}{H:Hp}{s:Shared}(I:Inv X (pins++pl) σ H s):Inv X pins σ H s:=I.pins_of fun p hp=>I.pin p (List.mem_append_right _ (List.mem_append_left _ hp))
theorem ps_for{iter:Expr}{body:List Stmt}{wi:TI}{g:TG}{tb:TS}{pos:Pos}(hp:PassesOwn (model X.prog X.w) X.A X.env X.xe)(hc:X.calm=true)(hi:PI X tg iter wi)(hg:PG X tg g)(hb:PSs X body tb)
  (hs:∀x,foldedSetIterable iter X.env x=pure x:=by intro _;rfl):PS X (.For tg iter body [] pos) (tFor wi g tb):=by
 intro pins s σ H D I h
 refine wpAny_For (thn (hi pins s σ H _ I h) fun v s1 h1=>thn h1 fun itv s2 h2=>?_) hs
 obtain⟨it,fp,tn,J,H2,e,I2,T,st2,f2,W,⟨m0,w0⟩,turn⟩:=h2
 subst e
 have stat:∀{H':Hp},(∀b∈fp,H' b=none)->∀b∈fp,FpOk X pins H' b:=fun hn b hb=>⟨hn b hb,(f2 b hb).2⟩
 refine codeAny_forLoop_any (fun n s'=>∃i σ' H',Inv X pins σ' H' s'/\tn i s'.heap/\(∀b∈fp,H' b=none)/\W i n σ' H') ?_ m0 ⟨0,σ,H2,I2,st2,fun b hb=>(f2 b hb).1,w0⟩
 rintro n s3 ⟨i,σ3,H3,I3,st3,fr3,w3⟩
 rcases turn i n σ3 H3 w3 with ⟨stop,qn⟩|⟨go,N,hN,step⟩
 ·refine wpAny_passesOwn hp (thn (T.done X rfl rfl rfl hc i pins s3 σ3 H3 X.xe I3 (stat fr3) st3 stop) fun r s4 ⟨hr,I4⟩=>?_)
  subst hr
  exact wpAny_execs_nil ⟨σ3,H3,I4,qn⟩
 ·refine wpAny_passesOwn hp (thn (T.item X rfl rfl rfl hc i pins s3 σ3 H3 X.xe I3 (stat fr3) st3 go) fun r s4 ⟨u,hr,h4⟩=>?_)
  subst hr
  refine wpAny_passesOwn hp (thn h4 fun _ s5 ⟨x,H5,I5,r5,y5,st5,fr5⟩=>?_)
  have I5':=I5.pinned (stat fr5) (T.obj _ _ st5)
  refine wpAny_passesOwn hp (thn (hg _ s5 σ3 H5 x u _ I5' r5 (step x H5 y5)) fun _ s6 ⟨σ6,H6,I6,q6⟩=>?_)
  refine wpAny_passesOwn hp (thn (hb _ s6 σ6 H6 _ I6 q6) fun f s7 q7=>?_)
  have again:∀{σ7:St}{H7:Hp},Inv X (pins++pinsAt fp s5.heap) σ7 H7 s7->N σ7 H7->∃m,m < n/\∃i σ' H',Inv X pins σ' H' s7/\tn i s7.heap/\(∀b∈fp,H' b=none)/\W i m σ' H':=fun {σ7 H7} I7 n7=>by
   obtain⟨m',hm,w7⟩:=hN σ7 H7 n7
   refine⟨m',hm,i + 1,σ7,H7,I7.unpinned,T.keep _ _ _ st5 fun b hb o e=>(I7.pin (b,o) (List.mem_append_right _ (List.mem_append_right _ (mem_pinsAt hb e)))).1,fun b hb=>?_,w7⟩
   obtain⟨o,e,d⟩:=T.obj _ _ st5 b hb
   exact(I7.pin (b,o) (List.mem_append_right _ (List.mem_append_right _ (mem_pinsAt hb e)))).2.1
  cases f with
  | next=>obtain⟨σ7,H7,I7,n7⟩:=q7;exact again I7 n7
  | cont=>obtain⟨σ7,H7,I7,n7⟩:=q7;exact again I7 n7
  | brk=>obtain⟨σ7,H7,I7,q7⟩:=q7;exact⟨σ7,H7,I7.unpinned,q7⟩
  | ret v=>obtain⟨x7,σ7,H7,I7,r7,q7⟩:=q7;exact⟨x7,σ7,H7,I7.unpinned,r7,q7⟩
end
end L2
namespace L2
open PySem PySem.Spec PyProof.Rows
abbrev R2:=V->V->Hp->VK->Prop
def OpR(X:Cx)(f:Value->Value->Sem Value)(r:R2):Prop :=
 ∀(pins:List (Addr×Obj))(s:Shared)(σ:St)(H:Hp)(x y:V)(v u:Value)(Q:VK),Inv X pins σ H s->RelV x v->RelV y u->r x y H Q →
  wpAny (model X.prog X.w) X.A (f v u) (EP X pins σ Q) X.xe s
def UnR(X:Cx)(f:Value->Sem Value)(r:V->Hp->VK->Prop):Prop :=
 ∀(pins:List (Addr×Obj))(s:Shared)(σ:St)(H:Hp)(x:V)(v:Value)(Q:VK),Inv X pins σ H s->RelV x v->r x H Q →
  wpAny (model X.prog X.w) X.A (f v) (EP X pins σ Q) X.xe s
def CallR(X:Cx)(f:Value)(r:List V->Hp->VK->Prop):Prop :=
 ∀(pins:List (Addr×Obj))(s:Shared)(σ:St)(H:Hp)(xs:List V)(us:List Value)(Q:VK),Inv X pins σ H s->Vals xs us->r xs H Q →
  wpAny (model X.prog X.w) X.A (call f us) (EP X pins σ Q) X.xe s
def tOp(r:R2)(ta tb:TE):TE:=fun σ H Q=>ta σ H fun x H1=>tb σ H1 fun y H2=>r x y H2 Q
def tUn(r:V->Hp->VK->Prop)(ta:TE):TE:=fun σ H Q=>ta σ H fun x H1=>r x H1 Q
def rI(C:Int->Int->Prop)(g:Int->Int->V):R2:=fun x y H Q=>∃i j,x=.int i/\y=.int j/\C i j/\Q (g i j) H
def rI0(g:Int->Int->V):R2:=fun x y H Q=>∃i j,x=.int i/\y=.int j/\Q (g i j) H
def rU(g:Int->V):V->Hp->VK->Prop:=fun x H Q=>∃i,x=.int i/\Q (g i) H
section
variable {X:Cx} {a b c:Expr} {ta tb tc:TE} {pos:Pos}
theorem binT(ha:PE X a ta)(hb:PE X b tb){pins:List (Addr×Obj)}{s:Shared}{σ:St}{H:Hp}{R:V->V->Hp->Prop}(I:Inv X pins σ H s)
  (h:ta σ H fun x H1=>tb σ H1 fun y H2=>R x y H2) {Q:Value->Shared->Prop} {f:Value->Value->Sem Value}
  (hf:∀v u s2 x y H2,Inv X pins σ H2 s2->RelV x v->RelV y u->R x y H2->wpAny (model X.prog X.w) X.A (f v u) Q X.xe s2) :
  wpAny (model X.prog X.w) X.A (eval a X.env) (fun v s₁=>wpAny (model X.prog X.w) X.A (eval b X.env) (fun u s₂=>wpAny (model X.prog X.w) X.A (f v u) Q X.xe s₂) X.xe s₁) X.xe s:=by
 refine thn (ha pins s σ H _ I h) fun v s1 ⟨x,H1,I1,r1,q1⟩=>?_
 refine thn (hb pins s1 σ H1 _ I1 q1) fun u s2 ⟨y,H2,I2,r2,q2⟩=>?_
 exact hf v u s2 x y H2 I2 r1 r2 q2
theorem pe_op{op:Operator}{r:R2}(ho:OpR X (binaryOp op) r)(ha:PE X a ta)(hb:PE X b tb):PE X (.BinOp a op b pos) (tOp r ta tb):=by
 intro pins s σ H Q I h
 exact wpAny_BinOp (binT ha hb I h fun v u s2 x y H2 I2 rx ry q=>ho pins s2 σ H2 x y v u Q I2 rx ry q)
theorem pe_un{op:UnaryOp}{r:V->Hp->VK->Prop}(ho:UnR X (unaryOp op) r)(ha:PE X a ta):PE X (.UnaryOp op a pos) (tUn r ta):=by
 intro pins s σ H Q I h
 exact UnaryOp_ (thn (ha pins s σ H _ I h) fun v s1 ⟨x,H1,I1,r1,q1⟩=>ho pins s1 σ H1 x v Q I1 r1 q1)
theorem opI{f:Value->Value->Sem Value}{C:Int->Int->Prop}{g:Int->Int->Int}
  (rule:∀(i j:Int)(t u:Tok)(s:Shared)(Q:Value->Shared->Prop)(E:Value->Shared->Prop),C i j->Q (.int (g i j) s.toks) {s with toks:=s.toks + 1}->wpAny (model X.prog X.w) X.A (f (.int i t) (.int j u)) Q E s) :
  OpR X f (rI C fun i j=>.int (g i j)):=by
 intro pins s σ H x y v u Q I rx ry h
 obtain⟨i,j,rfl,rfl,hc,q⟩:=h
 obtain⟨t,rfl⟩:=rx
 obtain⟨t',rfl⟩:=ry
 exact rule i j t t' s _ _ hc ⟨.int (g i j),H,I.tok _,⟨_,rfl⟩,q⟩
theorem opI0{f:Value->Value->Sem Value}{g:Int->Int->Int}
  (rule:∀(i j:Int)(t u:Tok)(s:Shared)(Q:Value->Shared->Prop)(E:Value->Shared->Prop),Q (.int (g i j) s.toks) {s with toks:=s.toks + 1}->wpAny (model X.prog X.w) X.A (f (.int i t) (.int j u)) Q E s) :
  OpR X f (rI0 fun i j=>.int (g i j)):=by
 intro pins s σ H x y v u Q I rx ry h
 obtain⟨i,j,rfl,rfl,q⟩:=h
 obtain⟨t,rfl⟩:=rx
 obtain⟨t',rfl⟩:=ry
 exact rule i j t t' s _ _ ⟨.int (g i j),H,I.tok _,⟨_,rfl⟩,q⟩
theorem opB0{f:Value->Value->Sem Value}{g:Int->Int->Bool}
  (rule:∀(i j:Int)(t u:Tok)(s:Shared)(Q:Value->Shared->Prop)(E:Value->Shared->Prop),Q (.bool (g i j)) s->wpAny (model X.prog X.w) X.A (f (.int i t) (.int j u)) Q E s) :
  OpR X f (rI0 fun i j=>.bl (g i j)):=by
 intro pins s σ H x y v u Q I rx ry h
 obtain⟨i,j,rfl,rfl,q⟩:=h
 obtain⟨t,rfl⟩:=rx
 obtain⟨t',rfl⟩:=ry
 exact rule i j t t' s _ _ ⟨.bl (g i j),H,I,rfl,q⟩
def CPow(i j:Int):Prop:=0<=j/\j<=1000000/\i.natAbs < 2 ^ 64
def CMul(i j:Int):Prop:=(-(2 ^ 64) < i/\i < 2 ^ 64)∨(-(2 ^ 64) < j/\j < 2 ^ 64)
theorem CMul.ok{i j:Int}(h:CMul i j):IntMulOk i j:=by
 rcases h with ⟨h1,h2⟩|⟨h1,h2⟩
 ·exact .of_left (intBits_le_64 h1 h2)
 ·exact .of_right (intBits_le_64 h1 h2)
theorem op_add:OpR X (binaryOp .Add) (rI0 fun i j=>.int (i + j)):=opI0 fun _ _ _ _ _ _ _ q=>add_int q
theorem op_sub:OpR X (binaryOp .Sub) (rI0 fun i j=>.int (i - j)):=opI0 fun _ _ _ _ _ _ _ q=>sub_int q
theorem op_modN:OpR X (binaryOp .Mod) (rI (fun _ j=>j≠0) fun i j=>.int (i.fmod j)):=opI fun _ _ _ _ _ _ _ hc q=>mod_int' hc q
theorem op_pow:OpR X (binaryOp .Pow) (rI CPow fun i j=>.int (i ^ j.toNat)):=opI fun _ _ _ _ _ _ _ hc q=>pow_int_small hc.1 hc.2.1 hc.2.2 q
theorem unI{f:Value->Sem Value}{g:Int->Int}
  (rule:∀(i:Int)(t:Tok)(s:Shared)(Q:Value->Shared->Prop)(E:Value->Shared->Prop),Q (.int (g i) s.toks) {s with toks:=s.toks + 1}->wpAny (model X.prog X.w) X.A (f (.int i t)) Q E s) :
  UnR X f (rU fun i=>.int (g i)):=by
 intro pins s σ H x v Q I rx h
 obtain⟨i,rfl,q⟩:=h
 obtain⟨t,rfl⟩:=rx
 exact rule i t s _ _ ⟨.int (g i),H,I.tok _,⟨_,rfl⟩,q⟩
theorem un_neg:UnR X (unaryOp .USub) (rU fun i=>.int (-i)):=unI fun _ _ _ _ _ q=>neg_int q
end
section
variable {X:Cx} {a b c:Expr} {ta tb tc:TE} {pos:Pos}
theorem fin_bl{pins:List (Addr×Obj)}{σ:St}{H:Hp}{s:Shared}{Q:VK}{k k':Bool}(I:Inv X pins σ H s)(q:Q (.bl k) H)(e:k=k'):EP X pins σ Q (.bool k') s:=by
 subst e
 exact⟨.bl k,H,I,rfl,q⟩
theorem op_lt:OpR X (compareOp .Lt) (rI0 fun i j=>.bl (decide (i < j))):=opB0 fun _ _ _ _ _ _ _ q=>lt_int q
theorem op_le:OpR X (compareOp .LtE) (rI0 fun i j=>.bl (decide (i<=j))):=opB0 fun _ _ _ _ _ _ _ q=>le_int q
theorem op_gt:OpR X (compareOp .Gt) (rI0 fun i j=>.bl (decide (j < i))):=opB0 fun _ _ _ _ _ _ _ q=>gt_int q
theorem op_ge:OpR X (compareOp .GtE) (rI0 fun i j=>.bl (decide (j<=i))):=opB0 fun _ _ _ _ _ _ _ q=>ge_int q
theorem op_isN:OpR X (compareOp .Is) (fun x y H Q=>y=.non/\Q (.bl (decide (x=.non))) H):=by
 intro pins s σ H x y v u Q I rx ry h
 obtain⟨rfl,q⟩:=h
 cases ry
 refine is_none_gen (fin_bl I q ?_)
 cases x<;>first
  | (cases rx;rfl)
  | (obtain⟨t,rfl⟩:=rx;rfl)
theorem op_notN:OpR X (compareOp .IsNot) (fun x y H Q=>y=.non/\Q (.bl (!decide (x=.non))) H):=by
 intro pins s σ H x y v u Q I rx ry h
 obtain⟨rfl,q⟩:=h
 cases ry
 refine isnot_none_gen (fin_bl I q ?_)
 cases x<;>first
  | (cases rx;rfl)
  | (obtain⟨t,rfl⟩:=rx;rfl)
theorem OpR.or{f:Value->Value->Sem Value}{r r':R2}(h:OpR X f r)(h':OpR X f r'):OpR X f (fun x y H Q=>r x y H Q∨r' x y H Q):=by
 intro pins s σ H x y v u Q I rx ry q
 rcases q with q|q
 ·exact h pins s σ H x y v u Q I rx ry q
 ·exact h' pins s σ H x y v u Q I rx ry q
theorem nomark(b:Expr){op:CmpOp}(h:op ≠ .In:=by decide)(h2:op ≠ .NotIn:=by decide):behindInMarks op b=false:=by
 have e1:(op==CmpOp.In)=false:=by cases op<;>first|rfl|exact absurd rfl h
 have e2:(op==CmpOp.NotIn)=false:=by cases op<;>first|rfl|exact absurd rfl h2
 cases b<;>simp[behindInMarks,e1,e2]
theorem pe_cmpR{op:CmpOp}{r:R2}(ho:OpR X (compareOp op) r)(ha:PE X a ta)(hb:PE X b tb)(hm:behindInMarks op b=false):PE X (.Compare a [op] [b] pos) (tOp r ta tb):=by
 intro pins s σ H Q I h
 exact wpAny_Compare1 (binT ha hb I h fun v u s2 x y H2 I2 rx ry q=>ho pins s2 σ H2 x y v u Q I2 rx ry q) hm
def tTest(t:TE):TT:=fun σ H Q=>t σ H fun x H'=>∃k,x=.bl k/\Q k H'
theorem pt_cmpR{op:CmpOp}{r:R2}(ho:OpR X (compareOp op) r)(ha:PE X a ta)(hb:PE X b tb)(hm:behindInMarks op b=false):PT X (.Compare a [op] [b] pos) (tTest (tOp r ta tb)):=by
 intro pins s σ H Q I h
 refine wpAny_isTrue_Compare1 (thn (ha pins s σ H _ I h) fun v s1 ⟨x,H1,I1,r1,q1⟩=>thn (hb pins s1 σ H1 _ I1 q1) fun u s2 ⟨y,H2,I2,r2,q2⟩ =>
  thn (ho pins s2 σ H2 x y v u _ I2 r1 r2 q2) fun c s3 ⟨z,H3,I3,r3,k,e,q3⟩=>?_) hm
 subst e
 cases r3
 exact wpAny_truthy_bool ⟨H3,I3,q3⟩
def tChain(r r':R2)(ta tb tc:TE):TE:=fun σ H Q=>ta σ H fun x H1=>tb σ H1 fun y H2=>r x y H2 fun z H3=>∃k,z=.bl k ∧
 (if k=true then tc σ H3 fun w' H4=>r' y w' H4 Q else Q (.bl false) H3)
theorem pe_chain{op op':CmpOp}{r r':R2}(ho:OpR X (compareOp op) r)(ho':OpR X (compareOp op') r')(ha:PE X a ta)(hb:PE X b tb)(hc:PE X c tc)
  (hm:lastMarks [op,op'] [b,c]=false:=by with_unfolding_all rfl):PE X (.Compare a [op,op'] [b,c] pos) (tChain r r' ta tb tc):=by
 intro pins s σ H Q I h
 refine Compare_chain (thn (ha pins s σ H _ I h) fun v s1 ⟨x,H1,I1,r1,q1⟩=>chain_link (thn (hb pins s1 σ H1 _ I1 q1) fun u s2 ⟨y,H2,I2,r2,q2⟩ =>
  thn (ho pins s2 σ H2 x y v u _ I2 r1 r2 q2) fun d s3 ⟨z,H3,I3,r3,k,e,q3⟩=>?_)) hm
 subst e
 cases r3
 refine wpAny_truthy_bool ?_
 cases k with
 | false=>exact ite_ff ⟨.bl false,H3,I3,rfl,q3⟩
 | true=>exact ite_tt (chain_last (thn (hc pins s3 σ H3 _ I3 q3) fun w' s4 ⟨z',H4,I4,r4,q4⟩=>ho' pins s4 σ H4 y z' u w' Q I4 r2 r4 q4))
theorem line63:(sizeLine:Nat) < 2 ^ 63:=by rw[sizeLine_eq];decide
theorem op_add_str:OpR X (binaryOp .Add) (fun x y H Q=>∃i j,x=.str i/\y=.str j/\i.length + j.length<=sizeLine/\Q (.str (i++j)) H):=by
 intro pins s σ H x y v u Q I rx ry h
 obtain⟨i,j,rfl,rfl,hz,q⟩:=h
 obtain⟨t,rfl⟩:=rx
 obtain⟨t',rfl⟩:=ry
 exact add_str (fun t' tk=>⟨.str (i++j),H,I.tok _,⟨_,rfl⟩,q⟩) hz
theorem vals1{x:V}{us:List Value}(r:Vals [x] us):∃u,us=[u]/\RelV x u:=by
 cases r with
 | cons r1 r2=>cases r2;exact⟨_,rfl,r1⟩
theorem vals2{x y:V}{us:List Value}(r:Vals [x,y] us):∃u w',us=[u,w']/\RelV x u/\RelV y w':=by
 cases r with
 | cons r1 r2 =>
  cases r2 with
  | cons r3 r4=>cases r4;exact⟨_,_,rfl,r1,r3⟩
theorem call_abs:CallR X (.builtin "abs") (fun xs H Q=>∃i,xs=[.int i]/\Q (.int (if i < 0 then -i else i)) H):=by
 intro pins s σ H xs us Q I r h
 obtain⟨i,rfl,q⟩:=h
 obtain⟨u,rfl,t,rfl⟩:=vals1 r
 exact call_abs_int fun u tk=>⟨.int (if i < 0 then -i else i),H,I.tok _,⟨_,rfl⟩,q⟩
theorem call_max2(hc:X.calm=true):CallR X (.builtin "max") (fun xs H Q=>∃i j,xs=[.int i,.int j]/\Q (.int (if j > i then j else i)) H):=by
 intro pins s σ H xs us Q I r h
 obtain⟨i,j,rfl,q⟩:=h
 obtain⟨u,w',rfl,⟨t,rfl⟩,⟨t',rfl⟩⟩:=vals2 r
 refine max_two_ints (I.ok.hd hc) fun h' tk k=>⟨_,H,I.kept k,?_,q⟩
 by_cases hj:j > i
 ·rw[if_pos hj,if_pos hj];exact⟨_,rfl⟩
 ·rw[if_neg hj,if_neg hj];exact⟨_,rfl⟩
theorem call_min2(hc:X.calm=true):CallR X (.builtin "min") (fun xs H Q=>∃i j,xs=[.int i,.int j]/\Q (.int (if j < i then j else i)) H):=by
 intro pins s σ H xs us Q I r h
 obtain⟨i,j,rfl,q⟩:=h
 obtain⟨u,w',rfl,⟨t,rfl⟩,⟨t',rfl⟩⟩:=vals2 r
 refine min_two_ints (I.ok.hd hc) fun h' tk k=>⟨_,H,I.kept k,?_,q⟩
 by_cases hj:j < i
 ·rw[if_pos hj,if_pos hj];exact⟨_,rfl⟩
 ·rw[if_neg hj,if_neg hj];exact⟨_,rfl⟩
theorem call_int1:CallR X (.type "int") (fun xs H Q=>(∃i,xs=[.int i]/\Q (.int i) H)∨∃k,xs=[.bl k]/\Q (.int (if k then 1 else 0)) H):=by
 intro pins s σ H xs us Q I r h
 rcases h with ⟨i,rfl,q⟩|⟨k,rfl,q⟩
 ·obtain⟨u,rfl,t,rfl⟩:=vals1 r
  exact call_int_int ⟨.int i,H,I,⟨_,rfl⟩,q⟩
 ·obtain⟨u,rfl,r1⟩:=vals1 r
  cases r1
  exact call_int_bool ⟨.int (if k then 1 else 0),H,I.tok _,⟨_,rfl⟩,q⟩
end
end L2
namespace L2
open PySem PySem.Spec PyProof.Rows
structure ObjM(h:Heap)(x dx C:Addr)(mA:Str->Option Value):Prop where
 obj:h.get? x=some (PySem.W.instObj C dx)
 ns:h.Ns1 dx mA
 ne:dx≠x
theorem lookIn_ns{h:Heap}{dx:Addr}{mA:Str->Option Value}(n:h.Ns1 dx mA):∃od,h.get? dx=some od/\∀name,PySem.W.lookIn name od=some (mA name):=by
 obtain⟨o,es,ep,ho,hd,hk,_,hm⟩:=n
 refine⟨o,ho,fun name=>?_⟩
 have e:=hm name
 unfold nsFind findBy at e
 rw[← Array.find?_toList]at e
 unfold PySem.W.lookIn
 rw[hd]
 dsimp only
 split
 ·rename_i y q
  rw[q]at e
  exact congrArg some e
 ·rename_i q
  rw[q]at e
  have a:es.toList.any (·.refKey)=false:=by
   rw[List.any_eq_false]
   intro y hy
   obtain⟨z,t,hkey⟩:=hk y (Array.mem_toList_iff.mp hy)
   simp[DictEntry.refKey,hkey]
  have a':¬ es.toList.any (·.refKey)=true:=by rw[a];exact Bool.false_ne_true
  rw[if_neg a']
  exact congrArg some e
theorem ObjM.look{h:Heap}{x dx C:Addr}{mA:Str->Option Value}(I:ObjM h x dx C mA):∃od,PySem.W.InstAt h x (PySem.W.instObj C dx) C (some od)/\∀name,PySem.W.lookIn name od=some (mA name) :=
 let ⟨od,ho,hl⟩:=lookIn_ns I.ns
 ⟨od,⟨I.obj,rfl,rfl,ho⟩,hl⟩
section
variable {prog:Program} {w:World} {A:Around} {E:Value->Shared->Prop} {s:Shared} {K:PySem.W.Frag} {x dx C f:Addr} {mA:Str->Option Value} {name:Str} {v:Value}
end
section
variable {P:Program} {w:World} {H H':Hp} {h h':Heap} {a C dx:Addr} {fs fs':List (Str×V)}
end
structure Cls(K:PySem.W.Frag)(C:Addr):Prop where
 pg:PySem.W.plainGet K C Str.empty=true
 hd:PySem.W.hasDictIn K C=true
 po:PySem.W.plainOver K C=true
 sa:PySem.W.findIn K (.ref C) "__setattr__" = some (some (.builtin "object.__setattr__"))
theorem Cls.get{K:PySem.W.Frag}{C:Addr}(c:Cls K C)(f:Str):PySem.W.plainGet K C f=true:=c.pg
structure Con(K:PySem.W.Frag)(C:Addr)(f:Str)(v:V)(u:Value):Prop where
 at_:PySem.W.findIn K (.ref C) f=some (some u)
 rel:RelV v u
 get:PySem.W.specialIn K u "__get__" = some none
 cp:PySem.W.copiedNames.contains f=false
structure Meth(K:PySem.W.Frag)(C:Addr)(m:Str)(f:Addr):Prop where
 at_:PySem.W.findIn K (.ref C) m=some (some (.ref f))
 fn:PySem.W.isFn K (.ref f)=true
 kp:PySem.W.keepIn K (.ref f)=true
section
variable {X:Cx} {pins:List (Addr×Obj)} {σ:St} {H:Hp} {s:Shared} {a C dx:Addr} {fs:List (Str×V)} {f:Str} {v:V} {A:Around} {E:Value->Shared->Prop}
theorem Inv.made(I:Inv X pins σ H s):Inv X pins σ (upd (upd H s.heap.objs.size (.own (s.heap.objs.size + 1))) (s.heap.objs.size + 1) (.ins C s.heap.objs.size []))
  {s with heap:=(s.heap.push PySem.W.emptyDict).push (PySem.W.instObj C s.heap.objs.size)}:=by
 have e1:(s.heap.push PySem.W.emptyDict).get? s.heap.objs.size=some PySem.W.emptyDict:=Heap.get?_push_size s.heap rfl
 have e2:((s.heap.push PySem.W.emptyDict).push (PySem.W.instObj C s.heap.objs.size)).get? (s.heap.objs.size + 1)=some (PySem.W.instObj C s.heap.objs.size):=by
  have:=Heap.get?_push_size (s.heap.push PySem.W.emptyDict) (o:=PySem.W.instObj C s.heap.objs.size) rfl
  rwa [Heap.size_push]at this
 have e3:(s.heap.push PySem.W.emptyDict).Ns s.heap.objs.size (fun _=>none):=⟨PySem.W.emptyDict,#[],_,e1,rfl,(fun e he=>absurd he (by simp)),fun _=>rfl⟩
 have I1:=I.laid (a:=s.heap.objs.size) (o:=.own (s.heap.objs.size + 1)) (h':=s.heap.push PySem.W.emptyDict) (t':=s.toks) (fun b u q=>Heap.get?_push_of_some _ q) (Nat.le_refl _) ⟨_,e1⟩
 refine I1.laid (a:=s.heap.objs.size + 1) (o:=.ins C s.heap.objs.size []) (t':=s.toks) (fun b u q=>Heap.get?_push_of_some _ q) (Nat.le_of_eq (Heap.size_push _ _)) ?_
 have ne:s.heap.objs.size≠s.heap.objs.size + 1:=Nat.ne_of_lt (Nat.lt_succ_self _)
 refine⟨by rw[upd_ne ne,upd_same],Nat.zero_le _,ne,e2,fun _=>none,(Heap.Ns1.of_empty e3).at fun o q=>Heap.get?_push_of_some _ q,fun _=>True.intro,fun y hy=>absurd rfl hy⟩
theorem attr_of{prog:Program}{w:World}{env:Env}{e:Expr}{f:Str}{pos:Pos}{s:Shared}{Q:Value->Shared->Prop}(hb:attributeBase e f env (eval e env)=eval e env)
  (h:wpAny (model prog w) A (eval e env) (fun o s₁=>wpAny (model prog w) A (getAttr o f true) Q E s₁) E s):wpAny (model prog w) A (eval (.Attribute e f pos) env) Q E s :=
 Attribute_any_ h (by rw[arm_eval_Attribute,hb])
end
section
variable {X:Cx} {o e value:Expr} {f:Str} {pos pos' tpos:Pos} {ta tv:TE}
end
section
variable {X:Cx} {pins:List (Addr×Obj)} {σ:St} {H:Hp} {s:Shared} {A:Around} {E:Value->Shared->Prop} {Q:Value->Shared->Prop} {c:Value} {b:Bool}
inductive TyOf (K:PySem.W.Frag) (H:Hp):V->Value->Prop where
 | non:TyOf K H .non (.type "NoneType")
 | bl (x:Bool):TyOf K H (.bl x) (.type "bool")
 | int (i:Int):TyOf K H (.int i) (.type "int")
 | str (x:Str):TyOf K H (.str x) (.type "str")
 | flt (x:UInt64):TyOf K H (.flt x) (.type "float")
 | lst {a:Addr} {xs:List V} (e:H a=some (.lst xs)):TyOf K H (.ref a) (.type "list")
 | frz {a:Addr} {o:Obj} {xs:List V} (e:H a=some (.frz o (.lst xs))):TyOf K H (.ref a) (.type "list")
 | tup {a:Addr} {xs:List V} (e:H a=some (.tup xs)):TyOf K H (.ref a) (.type "tuple")
 | dK {a:Addr} {kvs:List (Key×V)} (e:H a=some (.dK kvs)):TyOf K H (.ref a) (.type "dict")
 | dT {a:Addr} {kvs:List (List Key×V)} (e:H a=some (.dT kvs)):TyOf K H (.ref a) (.type "dict")
 | ins {a C dx:Addr} {fs:List (Str×V)} (e:H a=some (.ins C dx fs)) (cl:Cls K C) (ha:PySem.W.findIn K (.ref C) "__class__" = some (some (.builtin "object.__class__")))
   (hn:PySem.W.specialIn K (.builtin "object.__class__") "__get__" = some (some (.builtin "getset_descriptor.__get__"))) (htk:PySem.W.takesIn K (.builtin "object.__class__")=some true)
   (hm:PySem.W.mroIn K C (.type "object")=some true):TyOf K H (.ref a) (.ref C)
end
end L2
namespace L2
open PySem PySem.Spec PyProof.Rows
structure Room(k:Nat)(A:Around):Prop where
 hd:A.handled=none
 dp:A.depth + 3 * k + 5 < recursionLimit
 un:A.units + 16 * k + 200 < cLine
theorem Room.mono{j k:Nat}{A:Around}(r:Room k A)(h:j<=k):Room j A:=⟨r.hd,by have:=r.dp;omega,by have:=r.un;omega⟩
theorem Room.deeper{k:Nat}{A:Around}(r:Room (k + 1) A)(env:Env):Room k (A.deeper env) :=
 ⟨r.hd,by have:=r.dp;show A.depth + 1 + 3 * k + 5 < _;omega,by have:=r.un;show A.units + 3 + 16 * k + 200 < _;omega⟩
theorem Room.in1{k:Nat}{A:Around}(r:Room (k + 1) A):Room k A.in1 :=
 ⟨r.hd,by have:=r.dp;show A.depth + 3 * k + 5 < _;omega,by have:=r.un;show A.units + 1 + 16 * k + 200 < _;omega⟩
theorem make_depth{A:Around}{C:Addr}{us:List Value}{kw:List (Str×Value)}:(A.under (.builtin "type.__call__" ⟨.ref C::us,kw⟩)).depth=A.depth + 1:=by
 first|rfl|simp[Around.under,Code.weight,Code.isCreation,Code.isGuard,Code.isCaller,Code.frames,Code.isFrame,guardIds]
theorem make_units{A:Around}{C:Addr}{us:List Value}{kw:List (Str×Value)}:(A.under (.builtin "type.__call__" ⟨.ref C::us,kw⟩)).units=A.units + 1:=by
 first|rfl|simp[Around.under,Code.cUnits,Code.frames,Code.isFrame]
theorem Room.make{k:Nat}{A:Around}(r:Room (k + 1) A)(C:Addr)(us:List Value)(kw:List (Str×Value)):Room k (A.under (.builtin "type.__call__" ⟨.ref C::us,kw⟩)) :=
 ⟨r.hd,by have:=r.dp;rw[make_depth];omega,by have:=r.un;rw[make_units];omega⟩
theorem Room.depth{k:Nat}{A:Around}(r:Room k A):A.depth < recursionLimit:=by have:=r.dp;omega
theorem Room.units{k:Nat}{A:Around}(r:Room k A):A.units + 64 < cLine:=by have:=r.un;omega
def tNil:TA:=fun _ H Q=>Q [] H
def tCons(ta:TE)(tr:TA):TA:=fun σ H Q=>ta σ H fun x H1=>tr σ H1 fun xs H2=>Q (x::xs) H2
section
variable {X:Cx} {e:Expr} {es:List Expr} {te:TE} {t:TA} {pos:Pos}
theorem pa_nil:PA X [] tNil:=fun _ _ _ _ H Q I h=>Calls.spliced_nil ⟨[],H,I,.nil,h⟩
theorem pa_cons(ha:PE X e te)(hr:PA X es t)(hs:starEach (e::es) X.env=(false,eval e X.env)::starEach es X.env:=by rfl):PA X (e::es) (tCons te t):=by
 intro pos pins s σ H Q I h
 rw[hs]
 show wpAny _ _ (spliced ((false,eval e X.env)::backTo pos (starEach es X.env))) _ _ s
 refine Calls.spliced_cons (thn (ha pins s σ H _ I h) fun u s1 ⟨x,H1,I1,r1,q1⟩=>?_)
 exact thn (hr pos pins s1 σ H1 _ I1 q1) fun us s2 ⟨xs,H2,I2,r2,q2⟩=>⟨x::xs,H2,I2,.cons r1 r2,q2⟩
def tTup(t:TA):TE:=fun σ H Q=>t σ H fun xs H1=>xs.length<=sizeLine/\∀p,H1 p=none->Q (.ref p) (upd H1 p (.tup xs))
def tLst(t:TA):TE:=fun σ H Q=>t σ H fun xs H1=>xs.length<=sizeLine/\∀p,H1 p=none->Q (.ref p) (upd H1 p (.lst xs))
theorem pe_tup{x1}(h:PA X es t):PE X (.Tuple es x1 pos) (tTup t):=by
 intro pins s σ H Q I hq
 refine wpAny_Tuple_spliced (thn (h pos pins s σ H _ I hq) fun us s1 ⟨xs,H1,I1,r,z,q⟩=>⟨by rw[← r.length];exact z,?_⟩)
 have hf:H1 s1.heap.objs.size=none:=I1.hok.fresh (Nat.le_refl _)
 refine⟨.ref s1.heap.objs.size,upd H1 s1.heap.objs.size (.tup xs),I1.laid (t':=s1.toks) (fun b u e=>Heap.get?_push_of_some _ e) (Nat.le_refl _) ?_,rfl,q _ hf⟩
 exact⟨z,us,r,⟨_,Heap.get?_push_size _ rfl,rfl,_,rfl⟩⟩
theorem pe_lst(h:PA X es t):PE X (.List es pos) (tLst t):=by
 intro pins s σ H Q I hq
 refine wpAny_List_spliced (thn (h pos pins s σ H _ I hq) fun us s1 ⟨xs,H1,I1,r,z,q⟩=>⟨by rw[← r.length];exact z,?_⟩)
 have hf:H1 s1.heap.objs.size=none:=I1.hok.fresh (Nat.le_refl _)
 refine⟨.ref s1.heap.objs.size,upd H1 s1.heap.objs.size (.lst xs),I1.laid (t':=s1.toks) (fun b u e=>Heap.get?_push_of_some _ e) (Nat.le_refl _) ?_,rfl,q _ hf⟩
 exact⟨z,us,0,r,Heap.get?_push_size _ rfl⟩
end
abbrev Sp:=List V->Hp->VK->XK->Prop
abbrev CXT:=List Env->Hp->Shared->XK->Value->Shared->Prop
structure Env0(P:Program)(w:World)(K:PySem.W.Frag)(mg:Str->Option Value)(base:Heap)(A:Around)(outer:List Env)(s:Shared)(H:Hp):Prop where
 frames:A.frames=some outer
 mod:Mod K mg base
 bs:∀b o,base.get? b=some o->s.heap.get? b=some o/\H b=none
 bsz:base.objs.size<=s.heap.objs.size
 funs:s.heap.FunFrames base outer
 frf:∀b∈frs outer,H b=none
 hok:HOk P w H s.heap
 bare:AllBare s.gens
def CE(outer:List Env)(P:Program)(w:World)(H:Hp)(s:Shared)(Q:VK)(u:Value)(s':Shared):Prop :=
 ∃v H',s'.os=s.os/\AllBare s'.gens/\Un (frs outer) [] H H' s.heap s'.heap/\HOk P w H' s'.heap/\RelV v u/\Q v H'
def CR(CX:CXT)(outer:List Env)(P:Program)(w:World)(H:Hp)(s:Shared)(Q:VK)(E:XK)(r:Result)(s':Shared):Prop :=
 match r with
 | .ok (.ret u)=>CE outer P w H s Q u s'
 | .ok _=>False
 | .error e=>CX outer H s E e s'
structure FnOk(P:Program)(w:World)(K:PySem.W.Frag)(mg:Str->Option Value)(base:Heap)(CX:CXT)(k:Nat)(f:Addr)(fd:FuncData)(ps:List Str)(sp:Sp):Prop where
 len:∀vs H Q E,sp vs H Q E->vs.length=ps.length
 run:∀(A:Around)(outer:List Env)(s:Shared)(H:Hp)(args:Args)(us:List Value)(vs:List V)(Q:VK)(E:XK),Room k A->Env0 P w K mg base A outer s H->BindsTo s fd args (ps.zip us)->Vals vs us->sp vs H Q E →
  codeAny (model P w) A (.call (.ref f) args) (CR CX outer P w H s Q E) s
theorem FnOk.mono{P:Program}{w:World}{K:PySem.W.Frag}{mg:Str->Option Value}{base:Heap}{CX:CXT}{j k:Nat}{f:Addr}{fd:FuncData}{ps:List Str}{sp:Sp}(F:FnOk P w K mg base CX j f fd ps sp)(h:j<=k) :
  FnOk P w K mg base CX k f fd ps sp:=⟨F.len,fun A outer s H args us vs Q E hr=>F.run A outer s H args us vs Q E (hr.mono h)⟩
theorem FnOk.imp{P:Program}{w:World}{K:PySem.W.Frag}{mg:Str->Option Value}{base:Heap}{CX:CXT}{k:Nat}{f:Addr}{fd:FuncData}{ps:List Str}{sp sp':Sp}(F:FnOk P w K mg base CX k f fd ps sp)
  (h:∀vs H Q E,sp' vs H Q E->sp vs H Q E):FnOk P w K mg base CX k f fd ps sp' :=
 ⟨fun vs H Q E q=>F.len vs H Q E (h _ _ _ _ q),fun A outer s H args us vs Q E hr he hb hv hs=>F.run A outer s H args us vs Q E hr he hb hv (h _ _ _ _ hs)⟩
theorem Env0.make{P:Program}{w:World}{K:PySem.W.Frag}{mg:Str->Option Value}{base:Heap}{A:Around}{outer:List Env}{s:Shared}{H:Hp}(e:Env0 P w K mg base A outer s H)(C:Addr)(us:List Value)(kw:List (Str×Value)) :
  Env0 P w K mg base (A.under (.builtin "type.__call__" ⟨.ref C::us,kw⟩)) outer s H:=⟨by first|exact e.frames|(simpa [Around.under,Code.envs,Code.isFrame,pushEnvs] using e.frames),e.mod,e.bs,e.bsz,e.funs,e.frf,e.hok,e.bare⟩
theorem Env0.in1{P:Program}{w:World}{K:PySem.W.Frag}{mg:Str->Option Value}{base:Heap}{A:Around}{outer:List Env}{s:Shared}{H:Hp}(e:Env0 P w K mg base A outer s H) :
  Env0 P w K mg base A.in1 outer s H:=⟨e.frames,e.mod,e.bs,e.bsz,e.funs,e.frf,e.hok,e.bare⟩
section
variable {X:Cx} {pins:List (Addr×Obj)} {σ:St} {H:Hp} {s s':Shared}
theorem Inv.env0(I:Inv X pins σ H s):Env0 X.prog X.w X.K X.mg X.base X.A X.stack s H :=
 ⟨I.ok.frames,I.ok.mod,I.bs,Nat.le_trans I.ok.bsz I.sz,I.stack,I.stkFree,I.hok,I.bare⟩
theorem Inv.after{Q:VK}{u:Value}(I:Inv X pins σ H s)(h:CE X.stack X.prog X.w H s Q u s'):EP X pins σ Q u s':=by
 obtain⟨v,H',os,bare,un,hok,r,q⟩:=h
 obtain⟨hh,g,d,t,os'⟩:=s'
 obtain rfl:os'=s.os:=os
 exact⟨v,H',I.call (h':=hh) (g':=g) (d':=d) (t':=t) (ch:=[]) un hok bare (fun b z=>absurd z (by simp)),r,q⟩
end
def tCall(sp:Sp)(dvs:List V)(E:XK)(t:TA):TE:=fun σ H Q=>t σ H fun vs H1=>sp (vs++dvs) H1 Q E
def Binds(K:PySem.W.Frag)(fd:FuncData)(ps:List Str)(ds:List Value):Prop :=
 ∀(s:Shared)(us:List Value),K.In s.heap->(us++ds).length=ps.length->BindsTo s fd ⟨us,[]⟩ (ps.zip (us++ds))
theorem Binds.all{K:PySem.W.Frag}{fd:FuncData}{ps:List Str}(h:∀us:List Value,us.length=ps.length->bindArgs fd ⟨us,[]⟩=pure (ps.zip us)):Binds K fd ps []:=fun s us _ hl=>by
 rw[List.append_nil]at hl ⊢
 exact .of_eq (h us hl)
def Passes(CX:CXT)(X:Cx)(E:XK):Prop:=∀(pins:List (Addr×Obj))(σ:St)(H:Hp)(s:Shared)(e:Value)(s':Shared),Inv X pins σ H s->CX X.stack H s E e s'->X.xe e s'
section
variable {X:Cx} {CX:CXT} {k:Nat} {f C:Addr} {fd:FuncData} {ps:List Str} {sp:Sp} {dvs:List V} {ds:List Value} {E:XK} {x m:Str} {p pos apos:Pos} {e o:Expr} {es:List Expr} {ta:TE} {t:TA}
theorem run_fn{pins:List (Addr×Obj)}{σ:St}{H:Hp}{s:Shared}{Q:VK}{us:List Value}{vs:List V}(F:FnOk X.prog X.w X.K X.mg X.base CX k f fd ps sp)(hr:Room k X.A)(hb:Binds X.K fd ps ds)(hd:Vals dvs ds)(hx:Passes CX X E)
  (I:Inv X pins σ H s) (r:Vals vs us) (h:sp (vs++dvs) H Q E):wpAny (model X.prog X.w) X.A (call (.ref f) us) (EP X pins σ Q) X.xe s:=by
 have r2:Vals (vs++dvs) (us++ds):=r.append hd
 have hl:(us++ds).length=ps.length:=by rw[← r2.length];exact F.len _ _ _ _ h
 refine wpAny_call (codeAny_mono (F.run X.A X.stack s H ⟨us,[]⟩ (us++ds) (vs++dvs) Q E hr I.env0 (hb s us I.kIn hl) r2 h) fun r s' hq=>?_)
 cases r with
 | error e=>exact hx pins σ H s e s' I hq
 | ok fl =>
  cases fl with
  | ret u=>exact I.after hq
  | next=>exact False.elim hq
  | brk=>exact False.elim hq
  | cont=>exact False.elim hq
theorem pe_call(F:FnOk X.prog X.w X.K X.mg X.base CX k f fd ps sp)(hr:Room k X.A)(hg:Gl X x)(hm:X.mg x=some (.ref f))(hk:PySem.W.keepIn X.K (.ref f)=true)(hb:Binds X.K fd ps ds)(hd:Vals dvs ds)(hx:Passes CX X E)
  (ha:PA X (e::es) t) (hdb:(x==("__debug__" : Str))=false:=by decide) (he:starEach (e::es) X.env=(false,eval e X.env)::starEach es X.env:=by rfl) (hpl:(backTo pos (starEach es X.env)).any (·.1)=false:=by rfl) :
  PE X (.Call (.Name x p) (e::es) [] pos) (tCall sp dvs E t):=by
 intro pins s σ H Q I h
 refine wpAny_Call_Name_kw (ld_glob I hg hm ?_ hdb)
 refine PySem.W.callWith_K (h₀:=X.base) I.ok.mod.kin hk (thn (ha pos pins s σ H _ I h) fun us s1 ⟨vs,H1,I1,r,q⟩=>⟨I1.kIn,?_⟩) he hpl
 exact run_fn F hr hb hd hx I1 r q
structure Mk(K:PySem.W.Frag)(C f:Addr):Prop where
 makes:PySem.W.makesIn K C=true
 init:PySem.W.findIn K (.ref C) "__init__" = some (some (.ref f))
 fn:PySem.W.isFn K (.ref f)=true
 kp:PySem.W.keepIn K (.ref C)=true
end
section
variable {X:Cx} {CX:CXT} {k:Nat} {f C:Addr} {fd:FuncData} {ps ks:List Str} {sp:Sp} {E:XK} {x m:Str} {p pos apos kpos:Pos} {e o:Expr} {es:List Expr} {kws:List Keyword} {te ta:TE} {t tk:TA} {nm:Option Str}
structure KBinds(K:PySem.W.Frag)(fd:FuncData)(ps ks:List Str)(g:List Value->List Value->List Value)(gV:List V->List V->List V):Prop where
 to:∀(s:Shared)(us ws:List Value),K.In s.heap->(g us ws).length=ps.length->BindsTo s fd ⟨us,ks.zip ws⟩ (ps.zip (g us ws))
 rel:∀{vs:List V}{us:List Value}{zs:List V}{ws:List Value},Vals vs us->Vals zs ws->Vals (gV vs zs) (g us ws)
variable {g:List Value->List Value->List Value} {gV:List V->List V->List V}
end
structure FnScope(N P:List Str)(sc:Scope):Prop where
 kind:sc.kind=.function
 co:sc.isCoroutine=false
 gen:sc.isGenerator=false
 nd:N.Nodup
 pre:N.take P.length=P
 par:∀x∈P,sc.names.lookup x=some .local∨sc.names.lookup x=some .cell
 nofree:∀y∈sc.names,y.2 ≠ .free
theorem bindL_out{kindOf:Str->Option NameKind}{x:Str}:∀{binds:List (Str×Value)}{m:Str->Option Value},(∀v,(x,v)∉binds)->bindL kindOf binds m x=m x
 | [],_,_=>rfl
 | (n,v)::r,m,h=>by
  unfold bindL
  rw[bindL_out fun w hw=>h w (List.mem_cons_of_mem _ hw)]
  split
  ·have:x≠n:=by rintro rfl;exact h v List.mem_cons_self
   simp[this]
  ·rfl
theorem bindC_out{kindOf:Str->Option NameKind}{x:Str}:∀{binds:List (Str×Value)}{m:Str->Option Value},(∀v,(x,v)∉binds)->bindC kindOf binds m x=m x
 | [],_,_=>rfl
 | (n,v)::r,m,h=>by
  unfold bindC
  rw[bindC_out fun w hw=>h w (List.mem_cons_of_mem _ hw)]
  split
  ·rfl
  ·have:x≠n:=by rintro rfl;exact h v List.mem_cons_self
   simp[this]
theorem bindL_get{kindOf:Str->Option NameKind}{x:Str}{v:Value}:∀{P:List Str}{vs:List Value}{i:Nat}{m:Str->Option Value},P.Nodup->P[i]?=some x->vs[i]?=some v->kindOf x=some .local →
  bindL kindOf (P.zip vs) m x=some v
 | [],_,_,_,_,h,_,_=>by simp at h
 | _::_,[],_,_,_,_,h,_=>by simp at h
 | p::P,w::vs,0,m,nd,h1,h2,hk=>by
  simp at h1 h2;subst h1;subst h2
  show bindL kindOf ((p,w)::P.zip vs) m p=_
  unfold bindL
  rw[bindL_out fun v hv=>(List.nodup_cons.mp nd).1 (List.of_mem_zip hv).1,if_pos hk]
  simp
 | p::P,w::vs,i + 1,m,nd,h1,h2,hk=>by
  show bindL kindOf ((p,w)::P.zip vs) m x=_
  unfold bindL
  exact bindL_get (i:=i) (List.nodup_cons.mp nd).2 (by simpa using h1) (by simpa using h2) hk
theorem bindC_get{kindOf:Str->Option NameKind}{x:Str}{v:Value}:∀{P:List Str}{vs:List Value}{i:Nat}{m:Str->Option Value},P.Nodup->P[i]?=some x->vs[i]?=some v->kindOf x≠some .local →
  bindC kindOf (P.zip vs) m x=some v
 | [],_,_,_,_,h,_,_=>by simp at h
 | _::_,[],_,_,_,_,h,_=>by simp at h
 | p::P,w::vs,0,m,nd,h1,h2,hk=>by
  simp at h1 h2;subst h1;subst h2
  show bindC kindOf ((p,w)::P.zip vs) m p=_
  unfold bindC
  rw[bindC_out fun v hv=>(List.nodup_cons.mp nd).1 (List.of_mem_zip hv).1,if_neg hk]
  simp
 | p::P,w::vs,i + 1,m,nd,h1,h2,hk=>by
  show bindC kindOf ((p,w)::P.zip vs) m x=_
  unfold bindC
  exact bindC_get (i:=i) (List.nodup_cons.mp nd).2 (by simpa using h1) (by simpa using h2) hk
def start(N:List Str)(vs:List V):St:=vs.map some++List.replicate (N.length - vs.length) none
def cxOf(CX:CXT)(P:Program)(w:World)(K:PySem.W.Frag)(mg:Str->Option Value)(base:Heap)(N:List Str)(qual:Str)(scope:Scope)(f:Addr)(cd:Value)(A:Around)(outer:List Env)(s:Shared)(H:Hp)(E:XK):Cx where
 prog:=P
 w:=w
 K:=K
 mg:=mg
 base:=base
 A:=A.deeper (envOfC qual scope s.heap.objs.size f cd)
 N:=N
 s₀:=s
 H₀:=H
 env:=envOfC qual scope s.heap.objs.size f cd
 outer:=outer
 stack:=envOfC qual scope s.heap.objs.size f cd::outer
 ex:=[]
 calm:=true
 fn:=fun _=>true
 pn:=[]
 xe:=fun e s'=>wpAny (model P w) (A.deeper (envOfC qual scope s.heap.objs.size f cd)) (leaving (envOfC qual scope s.heap.objs.size f cd) e) (fun _ s''=>CX outer H s E e s'') (fun e' s''=>CX outer H s E e' s'') s'
theorem cell_has{sc:Scope}{n:Nat}{x:Str}(h:sc.names.lookup x=some .cell):∃c,(cellsFrom n sc.names []).lookup x=some c:=by
 have q:=PySem.W.cellsFrom_some sc.names n [] (.inl h)
 exact Option.isSome_iff_exists.mp q
theorem inv_start{CX:CXT}{P:Program}{w:World}{K:PySem.W.Frag}{mg:Str->Option Value}{base:Heap}{N ps:List Str}{qual:Str}{scope:Scope}{f:Addr}{cd:Value}{A:Around}{outer:List Env}{s s1:Shared}{H:Hp}{E:XK}{us:List Value}{vs:List V}
  (S:FnScope N ps scope) (hd:A.handled=none) (e0:Env0 P w K mg base A outer s H) (hl:vs.length=ps.length) (r:Vals vs us)
  (x:InCallC s s.heap.objs.size (bindL (envOfC qual scope s.heap.objs.size f cd).kindOf (ps.zip us) fun _=>none) (cellsFrom (s.heap.objs.size + 1) scope.names []) (bindC (envOfC qual scope s.heap.objs.size f cd).kindOf (ps.zip us) fun _=>none) s1) :
  Inv (cxOf CX P w K mg base N qual scope f cd A outer s H E) [] (start N vs) H s1:=by
 have hpl:ps.length<=N.length:=by have:=congrArg List.length S.pre;rw[List.length_take]at this;omega
 obtain⟨h1,tk,rfl,hk⟩:=x.done
 have noA:∀b:Addr,b∉(cxOf CX P w K mg base N qual scope f cd A outer s H E).ex:=fun b z=>absurd (show b∈([]:List Addr) from z) (by simp)
 refine⟨⟨e0.mod,S.kind,rfl,rfl,Nat.le_refl _,fun y z c h1 h2=>?_,fun y hy=>?_,fun y c _ h=>?_,fun _=>hd,Around.frames_deeper e0.frames,.inr ⟨rfl,rfl⟩,fun b z=>absurd z (noA b),e0.bs,e0.bsz,fun b _ _=>noA b,fun b z=>absurd z (noA b),e0.funs,e0.frf⟩,
  rfl,e0.bare,Un.kept hk,⟨_,x.toInCall.ns,fun i y v h1 h2 h3=>?_⟩,fun y c h=>⟨_,x.cell y c h⟩,e0.hok.fresh (Nat.le_refl _),fun y c h=>?_,fun p hp=>absurd (show p∈([]:List (Addr×Obj)) from hp) (by simp),e0.hok.kept hk,?_⟩
 ·exact name_of_addr x.apart (PySem.mem_of_lookup h1) (PySem.mem_of_lookup h2)
 ·have hy:scope.names.lookup y=some .cell∨scope.names.lookup y=some .free:=hy
  rcases hy with hy|hy
  ·exact cell_has hy
  ·exact absurd rfl (S.nofree _ (PySem.mem_of_lookup hy))
 ·exact Nat.le_of_lt (x.above y c (PySem.mem_of_lookup h))
 ·have hi:i < vs.length:=by
   unfold start at h2
   by_cases hi:i < vs.length
   ·exact hi
   ·rw[List.getElem?_append_right (by simpa using hi)]at h2
    rw[List.getElem?_replicate]at h2
    split at h2<;>cases h2
  have ha:vs[i]?=some v:=by
   unfold start at h2
   rw[List.getElem?_append_left (by simpa using hi),List.getElem?_map]at h2
   cases e:vs[i]? with
   | none=>rw[e]at h2;cases h2
   | some a=>rw[e]at h2;cases h2;rfl
  obtain⟨u,hu,rv⟩:=r.get ha
  have hp:ps[i]?=some y:=by
   rw[← S.pre,List.getElem?_take_of_lt (by omega)];exact h1
  have ndP:ps.Nodup:=by rw[← S.pre];exact S.nd.sublist (List.take_sublist _ _)
  refine⟨u,rv,?_⟩
  rcases S.par y (List.mem_of_getElem? hp) with k|k
  ·exact .inl ⟨k,bindL_get ndP hp hu k⟩
  ·obtain⟨c,e⟩:=cell_has (n:=s.heap.objs.size + 1) k
   refine .inr ⟨.inl k,c,e,?_⟩
   have q:=x.cell y c e
   rw[bindC_get ndP hp hu (by show scope.names.lookup y≠_;rw[k];decide)]at q
   exact q
 ·exact e0.hok.fresh (Nat.le_of_lt (x.above y c (PySem.mem_of_lookup h)))
 ·unfold start
  show _=N.length
  rw[List.length_append,List.length_map,List.length_replicate]
  omega
theorem fn_of{CX:CXT}{P:Program}{w:World}{K:PySem.W.Frag}{mg:Str->Option Value}{base:Heap}{k:Nat}{f:Addr}{name qual:Str}{params:Arguments}{body:List Stmt}{scope:Scope}{dV kV doc pm cdv ct oc:Value}{an od:Option Addr}
  {osl:Array (Option Value)} {N ps:List Str} {sp:Sp} (lk:K.lookup f=some ⟨oc,od,.func (PySem.W.fnOf name qual params body scope dV kV doc pm an cdv ct),osl⟩) (hcd:PySem.W.codeIn K cdv qual=true) (S:FnScope N ps scope)
  (len:∀vs H Q E,sp vs H Q E->vs.length=ps.length)
  (hbody:∀(A:Around)(outer:List Env)(s:Shared)(H:Hp)(vs:List V)(Q:VK)(E:XK),Room k (A.deeper (envOfC qual scope s.heap.objs.size f cdv))->sp vs H Q E →
   ∃t,PSs (cxOf CX P w K mg base N qual scope f cdv A outer s H E) body t/\t {nx:=fun _ H'=>Q .non H',rt:=Q} (start N vs) H) :
  FnOk P w K mg base CX (k + 1) f (PySem.W.fnOf name qual params body scope dV kV doc pm an cdv ct) ps sp:=by
 refine⟨len,fun A outer s H args us vs Q E hr e0 hb r hsp=>?_⟩
 have hl:=len _ _ _ _ hsp
 have KX:K.In s.heap:=e0.mod.kin.keeps fun b o e=>(e0.bs b o e).1
 have lim:s.heap.NoLimit:=e0.mod.nolimit.keeps fun b o e=>(e0.bs b o e).1
 have hkind:∀y∈ps.zip us,scope.names.lookup y.1=some .local∨(scope.names.lookup y.1=some .cell/\((cellsFrom (s.heap.objs.size + 1) scope.names []).lookup y.1).isSome=true):=fun ⟨n,v⟩ hy=>by
  rcases S.par n (List.of_mem_zip hy).1 with q|q
  ·exact .inl q
  ·exact .inr ⟨q,PySem.W.cellsFrom_some _ _ _ (.inl q)⟩
 refine codeAny_call_function hr.depth (KX _ _ lk) rfl S.co S.gen rfl (PySem.W.codeRec_of KX hcd) (hb _ _ _ _ ?_)
 refine wpAny_newFunctionEnv_cells S.kind hkind fun env he s1 x=>?_
 subst he
 refine⟨lim.keeps x.toInCall.keep,codeAny_func ?_⟩
 obtain⟨t,ht,hq⟩:=hbody A outer s H vs Q E (hr.deeper _) hsp
 have I:Inv (cxOf CX P w K mg base N qual scope f cdv A outer s H E) [] (start N vs) H s1:=inv_start S hr.hd e0 hl r x
 refine wpAny_mono (ht [] s1 (start N vs) H _ I hq) (fun fl s' hs=>?_) fun e s' hs=>hs
 have fin:∀{σ':St}{H':Hp}{v:V}{u:Value},Inv (cxOf CX P w K mg base N qual scope f cdv A outer s H E) [] σ' H' s'->RelV v u->Q v H'->CE outer P w H s Q u s' :=
  fun {σ' H' v u} J rv q=>⟨v,H',J.os,J.bare,J.base,J.hok,rv,q⟩
 cases fl with
 | ret u =>
  obtain⟨v,σ',H',J,rv,q⟩:=hs
  exact fin J rv q
 | next =>
  obtain⟨σ',H',J,q⟩:=hs
  exact fin (v:=V.non) (u:=Value.none) J rfl q
 | brk =>
  obtain⟨_,_,_,q⟩:=hs
  exact False.elim q
 | cont =>
  obtain⟨_,_,_,q⟩:=hs
  exact False.elim q
end L2
namespace L2
open PySem PySem.Spec PyProof.Rows
section
variable {X:Cx} {x:Str} {p pos:Pos} {e:Expr} {es:List Expr} {t:TA} {id T:String} {r:List V->Hp->VK->Prop}
def tCB(r:List V->Hp->VK->Prop)(t:TA):TE:=fun σ H Q=>t σ H fun vs H1=>r vs H1 Q
theorem pe_callB(hc:CallR X (.builtin id) r)(hg:Gl X x)(hm:X.mg x=none)(hv:bootBuiltins x=some (.builtin id))(ha:PA X (e::es) t) (hn:x ≠ "__name__" := by decide) (hdb:(x==("__debug__" : Str))=false:=by decide)
  (he:starEach (e::es) X.env=(false,eval e X.env)::starEach es X.env:=by rfl) (hpl:(backTo pos (starEach es X.env)).any (·.1)=false:=by rfl):PE X (.Call (.Name x p) (e::es) [] pos) (tCB r t):=by
 intro pins s σ H Q I h
 refine wpAny_Call_Name_kw (ld_blt I hg hm hv ?_ hn hdb)
 exact PyProof.Rows.callWith_builtin1 (thn (ha pos pins s σ H _ I h) fun us s1 ⟨vs,H1,I1,r1,q1⟩=>hc pins s1 σ H1 vs us Q I1 r1 q1) he hpl
theorem pe_callTy(hc:CallR X (.type T) r)(hg:Gl X x)(hm:X.mg x=none)(hv:bootBuiltins x=some (.type T))(ha:PA X (e::es) t) (hn:x ≠ "__name__" := by decide) (hdb:(x==("__debug__" : Str))=false:=by decide)
  (he:starEach (e::es) X.env=(false,eval e X.env)::starEach es X.env:=by rfl) (hpl:(backTo pos (starEach es X.env)).any (·.1)=false:=by rfl):PE X (.Call (.Name x p) (e::es) [] pos) (tCB r t):=by
 intro pins s σ H Q I h
 refine wpAny_Call_Name_kw (ld_blt I hg hm hv ?_ hn hdb)
 exact PyProof.Rows.callWith_type1 (thn (ha pos pins s σ H _ I h) fun us s1 ⟨vs,H1,I1,r1,q1⟩=>hc pins s1 σ H1 vs us Q I1 r1 q1) he hpl
end
end L2
namespace HT
open PySem PyProof.Rows
section
open PySem.SeqAt
open PySem.AutoSeq1 (wpAny_loadPart')
open PySem.MeetsSeq PySem.MeetsSeq2 PySem.MeetsSeq3
end
section
variable {prog:Program} {w:World} {A:Around} {E:Value->Shared->Prop} {s:Shared}
theorem cat_tup{t b:Addr}{vs ws:List Value}{Q:Value->Shared->Prop}(ht:IsTup s.heap t vs.toArray)(hb:IsTup s.heap b ws.toArray)(hv:vs≠[])
  (h1:ws=[]->Q (.ref t) s) (h2:ws≠[]->Q (.ref s.heap.objs.size) {s with heap:=s.heap.push {cls:=.type "tuple", data:=.seq (vs++ws).toArray} })
  (hsz:vs.length + ws.length<=sizeLine):wpAny (model prog w) A (binaryOp .Add (.ref t) (.ref b)) Q E s:=by
 obtain⟨⟨cls,dd,data,sl⟩,ho,hc,n,hd⟩:=id ht
 obtain⟨⟨cls2,dd2,data2,sl2⟩,ho2,hc2,n2,hd2⟩:=id hb
 simp only at hc hd hc2 hd2
 subst hc hd hc2 hd2
 have e:vs.toArray++ws.toArray=(vs++ws).toArray:=by simp
 by_cases hw:ws=[]
 ·exact concat_meets ⟨_,ho,rfl⟩ ⟨_,ho2,rfl⟩ noFill_tuple_add seq_tuple_add PySem.F.slot_tuple_add PySem.F.entry_tuple_add (PySem.F.args_tuple_add_2 _ _)
   (tuple_addW1 t b vs.toArray ws.toArray n n2 dd dd2 sl sl2 (by simpa using hv) (by simp[hw])) ⟨ho,ho2,h1 hw⟩
 ·refine concat_meets ⟨_,ho,rfl⟩ ⟨_,ho2,rfl⟩ noFill_tuple_add seq_tuple_add PySem.F.slot_tuple_add PySem.F.entry_tuple_add (PySem.F.args_tuple_add_2 _ _)
   (tuple_addW2 t b vs.toArray ws.toArray n n2 dd dd2 sl sl2 (by simpa using hv) (by simpa using hw) (by rw[List.size_toArray,List.size_toArray];exact hsz)) ⟨ho,ho2,?_⟩
  rw[e]
  exact h2 hw
def sIx(n d:Nat):Option Int->Nat
 | none=>d
 | some v=>if v < 0 then (v + (n:Int)).toNat else min v.toNat n
theorem sIx_le(n d:Nat)(hd:d<=n)(o:Option Int):sIx n d o<=n:=by
 cases o with
 | none=>exact hd
 | some v =>
  show (if v < 0 then (v + (n:Int)).toNat else min v.toNat n)<=n
  by_cases hv:v < 0
  ·rw[if_pos hv];omega
  ·rw[if_neg hv];exact Nat.min_le_right _ _
theorem clip_eq(v:Int)(n d:Nat):(if v < 0 then max (v + (n:Int)) 0 else min v (n:Int))=((sIx n d (some v):Nat):Int):=by
 show (if v < 0 then max (v + (n:Int)) 0 else min v (n:Int))=(((if v < 0 then (v + (n:Int)).toNat else min v.toNat n):Nat):Int)
 by_cases hv:v < 0
 ·simp only[if_pos hv];omega
 ·simp only[if_neg hv];omega
theorem adjust_gen(lo hi:Option Int)(n:Nat):Builtin.Slice.sliceAdjust lo hi 1 (n:Int)=(((sIx n 0 lo:Nat):Int),((sIx n n hi:Nat):Int)):=by
 have h1:¬ ((1:Int) < 0):=by omega
 unfold Builtin.Slice.sliceAdjust
 simp only[h1,if_false]
 refine Prod.ext ?_ ?_
 ·cases lo with
  | none=>rfl
  | some v=>exact clip_eq v n 0
 ·cases hi with
  | none=>rfl
  | some v=>exact clip_eq v n n
theorem places_gen(i j:Nat):Builtin.Slice.slicePlaces (i:Int) (j:Int) 1=j - i:=by
 unfold Builtin.Slice.slicePlaces
 have h1:(1:Int) > 0:=by omega
 simp only[h1,if_true,Int.ediv_one]
 split<;>omega
theorem slicePart_{v:Value}{o:Option Int}{Q:Option Int->Shared->Prop}(p:IsPart v o)(h:Q o s):wpAny (model prog w) A (Builtin.Slice.slicePartIndex v) Q E s:=by
 cases p with
 | none=>exact slicePart_none h
 | int i t=>exact slicePart_int h
theorem sliceApplied_gen{sl:Addr}{vl vu:Value}{lo hi:Option Int}{n:Nat}{Q:Int×Int×Nat->Shared->Prop}(hs:s.heap.IsSliceOf sl vl vu .none)(pl:IsPart vl lo)(pu:IsPart vu hi)
  (h:Q (((sIx n 0 lo:Nat):Int),1,sIx n n hi - sIx n 0 lo) s):wpAny (model prog w) A (Builtin.Slice.sliceApplied (.ref sl) (pure (n:Int))) Q E s:=by
 obtain⟨os,hos,hcs,hds⟩:=id hs
 unfold Builtin.Slice.sliceApplied Builtin.Slice.sliceFields
 refine wpAny_bind (wpAny_bind (wpAny_field hos hds (x:=vl) rfl (wpAny_bind (wpAny_field hos hds (x:=vu) rfl (wpAny_bind (wpAny_field hos hds (x:=.none) rfl (wpAny_pure ?_)))))))
 refine wpAny_bind (slicePart_none ?_)
 show wpAny _ _ (if ((1:Int)==0)=true then _ else _) _ _ s
 rw[if_neg (by decide)]
 refine wpAny_bind (slicePart_ pl (wpAny_bind (slicePart_ pu (wpAny_bind (wpAny_pure ?_)))))
 show wpAny _ _ (match Builtin.Slice.sliceAdjust lo hi 1 (n:Int) with|(lo,hi)=>pure (lo,(1:Int),Builtin.Slice.slicePlaces lo hi 1)) _ _ s
 rw[adjust_gen lo hi n]
 show wpAny _ _ (pure (((sIx n 0 lo:Nat):Int),(1:Int),Builtin.Slice.slicePlaces ((sIx n 0 lo:Nat):Int) ((sIx n n hi:Nat):Int) 1)) _ _ s
 rw[places_gen]
 exact wpAny_pure h
theorem pick_gen(xs:Array Value)(i k:Nat):((List.range k).filterMap fun (m:Nat)=>xs[((i:Int) + (m:Int) * 1).toNat]?).toArray=((xs.toList.drop i).take k).toArray:=by
 have e:(fun (m:Nat)=>xs[((i:Int) + (m:Int) * 1).toNat]?)=fun m=>xs[i + m]?:=by
  funext m
  have:((i:Int) + (m:Int) * 1).toNat=i + m:=by omega
  rw[this]
 rw[e]
 have:=pick_run xs i k
 rw[List.filterMap_map]at this
 have e2:((fun x=>xs[x]?) ∘ fun x=>i + x)=fun m=>xs[i + m]?:=rfl
 rw[e2]at this
 rw[this]
theorem getItem_tuple_cut{t sl:Addr}{items:Array Value}{vl vu:Value}{lo hi:Option Int}{Q:Value->Shared->Prop}(ht:IsTup s.heap t items)(hs:s.heap.IsSliceOf sl vl vu .none)(pl:IsPart vl lo)(pu:IsPart vu hi)
  (hw:¬ (sIx items.size 0 lo=0/\sIx items.size items.size hi=items.size))
  (h:Q (.ref s.heap.objs.size) {s with heap:=s.heap.push {cls:=.type "tuple", data:=.seq ((items.toList.drop (sIx items.size 0 lo)).take (sIx items.size items.size hi - sIx items.size 0 lo)).toArray} })
  (hsz:items.size<=sizeLine):wpAny (model prog w) A (getItem (.ref t) (.ref sl)) Q E s:=by
 have htake:sizeOk (.seq ((items.toList.drop (sIx items.size 0 lo)).take (sIx items.size items.size hi - sIx items.size 0 lo)).toArray):=by
  show ((items.toList.drop (sIx items.size 0 lo)).take (sIx items.size items.size hi - sIx items.size 0 lo)).toArray.size<=sizeLine
  rw[List.size_toArray,List.length_take,List.length_drop,Array.length_toList]
  omega
 have hj:sIx items.size items.size hi<=items.size:=sIx_le _ _ (Nat.le_refl _) hi
 obtain⟨os,hos,hcs,hds⟩:=id hs
 have hTs:s.TypeIs (.ref sl) "slice" := ⟨os,hos,hcs⟩
 unfold getItem
 try with_reducible refine wpAny_holding ?_
 first|refine wpAny_bind (wpAny_pure ?_)|skip
 refine wpAny_bind (wpAny_sequenceKey ht.typeIs (by decide) ?_)
 refine wpAny_bind (wpAny_callSpecial?_slot (name:=Str.ofString "__getitem__") ht.typeIs PyProof.Rows.slot_tuple_getitem
  (wpAny_call_entry PyProof.Rows.slot_tuple_getitem ht.typeIs entry_tuple_getitem ?_ (args_tuple_getitem _ _)))
 show wpAny _ _ (Builtin.Tuple.tupleItemsOf (.ref t) >>= _) _ _ s
 refine wpAny_bind (tupleItemsOf_ ht ?_)
 refine wpAny_bind (wpAny_typeOf hTs ?_)
 rw[if_pos (by decide)]
 refine wpAny_bind (sliceApplied_gen hs pl pu ?_)
 have hno:¬ ((((sIx items.size 0 lo:Nat):Int)==0&&(1:Int)==1&&(sIx items.size items.size hi - sIx items.size 0 lo)==items.size)=true):=by
  intro q
  rw[Bool.and_eq_true,Bool.and_eq_true]at q
  have q1:((sIx items.size 0 lo:Nat):Int)=0:=eq_of_beq q.1.1
  have q2:sIx items.size items.size hi - sIx items.size 0 lo=items.size:=eq_of_beq q.2
  exact hw ⟨by omega,by omega⟩
 show wpAny _ _ (if (((sIx items.size 0 lo:Nat):Int)==0&&(1:Int)==1&&(sIx items.size items.size hi - sIx items.size 0 lo)==items.size)=true then _ else _) _ _ s
 rw[if_neg hno,pick_gen]
 first
  | exact wpAny_bind (m:=Builtin.Tuple.tupleExact _) (wpAny_newObj_type (wpAny_pure ⟨_,rfl,wpAny_pure h⟩) htake)
  | exact wpAny_bind (m:=Builtin.Tuple.tupleExact _) (wpAny_newObj_type (wpAny_bind (wpAny_pure (wpAny_pure ⟨_,rfl,wpAny_pure h⟩))) htake)
  | exact wpAny_bind (wpAny_bind (m:=Builtin.Tuple.tupleExact _) (wpAny_newObj_type (wpAny_pure (wpAny_pure ⟨_,rfl,wpAny_pure h⟩)) htake))
  | exact wpAny_bind (wpAny_bind (m:=Builtin.Tuple.tupleExact _) (wpAny_newObj_type (wpAny_pure ⟨_,rfl,wpAny_pure h⟩) htake))
end
end HT
namespace L2
open PySem PySem.Spec PyProof.Rows
abbrev TO:=St->Hp->(Option Int->Hp->Prop)->Prop
def PO(X:Cx)(e:Option Expr)(t:TO):Prop :=
 ∀(pins:List (Addr×Obj))(s:Shared)(σ:St)(H:Hp)(Q:Option Int->Hp->Prop),Inv X pins σ H s->t σ H Q →
  wpAny (model X.prog X.w) X.A (evalPart e X.env) (fun u s'=>∃o H',Inv X pins σ H' s'/\IsPart u o/\Q o H') X.xe s
def tNoPart:TO:=fun _ H Q=>Q none H
def tPart(t:TE):TO:=fun σ H Q=>t σ H fun x H1=>∃i,x=.int i/\Q (some i) H1
theorem intsAre_of{ns:List Int}:∀{us:List Value},Vals (ns.map V.int) us->IntsAre us ns:=by
 induction ns with
 | nil=>intro us r;rw[List.map_nil]at r;cases r;exact .nil
 | cons n ns ih =>
  intro us r
  rw[List.map_cons]at r
  cases r with
  | cons r1 r2 =>
   obtain⟨t,e⟩:=r1
   subst e
   exact .cons n t (ih r2)
section
variable {X:Cx} {e:Expr} {te:TE} {lo hi:Option Expr} {tl th:TO} {pos p2:Pos}
theorem po_none:PO X none tNoPart:=by
 intro pins s σ H Q I h
 rw[evalPart_none]
 exact wpAny_pure ⟨none,H,I,.none,h⟩
theorem po_some(h:PE X e te):PO X (some e) (tPart te):=by
 intro pins s σ H Q I hw
 rw[evalPart_some]
 refine thn (h pins s σ H _ I hw) fun u s1 ⟨x,H1,I1,r1,q1⟩=>?_
 obtain⟨i,rfl,q⟩:=q1
 obtain⟨t,rfl⟩:=r1
 exact⟨some i,H1,I1,.int i t,q⟩
def SlR(X:Cx)(r:V->Option Int->Option Int->Hp->VK->Prop):Prop :=
 ∀(pins:List (Addr×Obj))(s:Shared)(σ:St)(H:Hp)(x:V)(v vl vu:Value)(lo hi:Option Int)(sl:Addr)(Q:VK),Inv X pins σ H s->RelV x v->s.heap.IsSliceOf sl vl vu .none->IsPart vl lo->IsPart vu hi->r x lo hi H Q →
  ∃T id,typeLookup (.type T) "__getitem__" = pure (some (.builtin id))/\s.TypeIs v T/\wpAny (model X.prog X.w) X.A (getItem v (.ref sl)) (EP X pins σ Q) X.xe s
theorem SlR.or{r r':V->Option Int->Option Int->Hp->VK->Prop}(h:SlR X r)(h':SlR X r'):SlR X (fun x lo hi H Q=>r x lo hi H Q∨r' x lo hi H Q):=by
 intro pins s σ H x v vl vu lo hi sl Q I rx hs pl pu q
 rcases q with q|q
 ·exact h pins s σ H x v vl vu lo hi sl Q I rx hs pl pu q
 ·exact h' pins s σ H x v vl vu lo hi sl Q I rx hs pl pu q
def tSl(r:V->Option Int->Option Int->Hp->VK->Prop)(te:TE)(tl th:TO):TE:=fun σ H Q=>te σ H fun x H1=>tl σ H1 fun l H2=>th σ H2 fun u H3=>r x l u H3 Q
theorem pe_slice{r:V->Option Int->Option Int->Hp->VK->Prop}(hr:SlR X r)(he:PE X e te)(hl:PO X lo tl)(hu:PO X hi th):PE X (.Subscript e (.Slice lo hi none p2) pos) (tSl r te tl th):=by
 intro pins s σ H Q I h
 refine Subscript_ (thn (he pins s σ H _ I h) fun v s1 ⟨x,H1,I1,r1,q1⟩=>?_)
 refine wpAny_Slice (thn (hl pins s1 σ H1 _ I1 q1) fun vl s2 ⟨l,H2,I2,pl,q2⟩=>thn (hu pins s2 σ H2 _ I2 q2) fun vu s3 ⟨u,H3,I3,pu,q3⟩=>?_)
 rw[evalPart_none]
 refine wpAny_pure ?_
 have I4:Inv X pins σ H3 {s3 with heap:=s3.heap.push {cls:=.type "slice", data:=.fields #[vl,vu,.none]} }:=I3.kept (t':=s3.toks) fun b ob q=>Heap.get?_push_of_some _ q
 obtain⟨T,id,hT,ht,hg⟩:=hr pins {s3 with heap:=s3.heap.push {cls:=.type "slice", data:=.fields #[vl,vu,.none]} } σ H3 x v vl vu l u s3.heap.objs.size Q I4 r1 (Heap.IsSliceOf.new ..) pl pu q3
 show wpAny (model X.prog X.w) X.A (subscriptTail e (.Slice lo hi none p2) v (.ref s3.heap.objs.size)) (EP X pins σ Q) X.xe {s3 with heap:=s3.heap.push {cls:=.type "slice", data:=.fields #[vl,vu,.none]} }
 exact tail_any (ops:=[.ref s3.heap.objs.size,v]) ht hT hg (by with_unfolding_all rfl)
def cutV(xs:List V)(lo hi:Option Int):List V:=(xs.drop (HT.sIx xs.length 0 lo)).take (HT.sIx xs.length xs.length hi - HT.sIx xs.length 0 lo)
theorem cutV_length(xs:List V)(lo hi:Option Int):(cutV xs lo hi).length<=xs.length:=by
 unfold cutV
 rw[List.length_take,List.length_drop]
 omega
def rSlT(K:PySem.W.Frag):V->Option Int->Option Int->Hp->VK->Prop:=fun x lo hi H Q=>∃a xs,x=.ref a/\SqT K H a xs ∧
 ¬ (HT.sIx xs.length 0 lo=0/\HT.sIx xs.length xs.length hi=xs.length)/\∀p,H p=none->Q (.ref p) (upd H p (.tup (cutV xs lo hi)))
theorem sl_tup:SlR X (rSlT X.K):=by
 intro pins s σ H x v vl vu lo hi sl Q I rx hs pl pu h
 obtain⟨a,xs,rfl,hx,hw,q⟩:=h
 cases rx
 obtain⟨its,r,ht,hz⟩:=I.tuple hx
 have hlen:its.toArray.size=xs.length:=by rw[List.size_toArray];exact r.length.symm
 refine⟨"tuple", _,PyProof.Rows.slot_tuple_getitem.lookup,ht.typeIs,?_⟩
 refine HT.getItem_tuple_cut ht hs pl pu (by rw[hlen];exact hw) ?_ (by rw[hlen];exact hz)
 rw[hlen]
 refine⟨.ref s.heap.objs.size,_,I.laid (t':=s.toks) (o:=.tup (cutV xs lo hi)) (fun b ob q=>Heap.get?_push_of_some _ q) (Nat.le_refl _) ?_,rfl,q _ (I.hok.fresh (Nat.le_refl _))⟩
 exact⟨Nat.le_trans (cutV_length xs lo hi) hz,_,(r.drop (HT.sIx xs.length 0 lo)).take (HT.sIx xs.length xs.length hi - HT.sIx xs.length 0 lo),IsTup.new _ _⟩
theorem Vals.nil_iff{xs:List V}{us:List Value}(r:Vals xs us):us=[] ↔ xs=[]:=by
 cases r with
 | nil=>simp
 | cons _ _=>simp
end
end L2
namespace L2
open PySem PySem.Spec PyProof.Rows
def ixN(n:Nat)(i:Int):Option Nat:=if 0<=i then (if i < n then some i.toNat else none) else if -(n:Int)<=i then some (i + n).toNat else none
def atI{α:Type}(xs:List α)(i:Int):Option α:=(ixN xs.length i).bind fun j=>xs[j]?
theorem ixN_seq{n:Nat}{i:Int}{j:Nat}(h:ixN n i=some j):seqIndex? i n=some j/\j < n /\ -(n:Int)<=i/\i < n:=by
 unfold ixN at h
 by_cases h0:0<=i
 ·rw[if_pos h0]at h
  by_cases h1:i < n
  ·rw[if_pos h1]at h
   have e:i.toNat=j:=Option.some.inj h
   exact⟨by rw[seqIndex_of h0 h1,e],by omega,by omega,h1⟩
  ·rw[if_neg h1]at h;cases h
 ·rw[if_neg h0]at h
  by_cases h1:-(n:Int)<=i
  ·rw[if_pos h1]at h
   have e:(i + n).toNat=j:=Option.some.inj h
   exact⟨by rw[seqIndex_neg (by omega) h1,e],by omega,h1,by omega⟩
  ·rw[if_neg h1]at h;cases h
theorem atI_get{α:Type}{xs:List α}{i:Int}{v:α}(h:atI xs i=some v):∃j,seqIndex? i xs.length=some j/\xs[j]?=some v/\j < xs.length /\ -(xs.length:Int)<=i/\i < xs.length:=by
 unfold atI at h
 cases e:ixN xs.length i with
 | none=>rw[e]at h;cases h
 | some j =>
  rw[e]at h
  obtain⟨h1,h2,h3,h4⟩:=ixN_seq e
  exact⟨j,h1,h,h2,h3,h4⟩
theorem atI_nat{α:Type}{xs:List α}{j:Nat}{v:α}(h:xs[j]?=some v):atI xs (j:Int)=some v:=by
 have hj:j < xs.length:=(List.getElem?_eq_some_iff.mp h).1
 have e:ixN xs.length (j:Int)=some j:=by
  unfold ixN
  rw[if_pos (by omega),if_pos (by omega)];simp
 unfold atI;rw[e];exact h
def PlainIx(b:Expr):Prop:=∀o i,subscripted b false o i=operate [o,i] (getItem o i)
def IxR(X:Cx)(r:R2):Prop :=
 ∀(value slice:Expr)(pins:List (Addr×Obj))(s:Shared)(σ:St)(H:Hp)(x y:V)(v u:Value)(Q:VK),Inv X pins σ H s->RelV x v->RelV y u->r x y H Q →
  subscripted slice false v u=operate [v,u] (getItem v u)->wpAny (model X.prog X.w) X.A (subscriptTail value slice v u) (EP X pins σ Q) X.xe s
def MtR(X:Cx)(id:String)(r:V->List V->Hp->VK->Prop):Prop :=
 ∀(pins:List (Addr×Obj))(s:Shared)(σ:St)(H:Hp)(x:V)(xs:List V)(v:Value)(us:List Value)(Q:VK),Inv X pins σ H s->RelV x v->Vals xs us->r x xs H Q →
  wpAny (model X.prog X.w) X.A (call (.builtin id) (v::us)) (EP X pins σ Q) X.xe s
section
variable {X:Cx} {a b:Expr} {ta tb:TE} {pos:Pos}
theorem IxR.or{r r':R2}(h:IxR X r)(h':IxR X r'):IxR X (fun x y H Q=>r x y H Q∨r' x y H Q):=by
 intro value slice pins s σ H x y v u Q I rx ry q hs
 rcases q with q|q
 ·exact h value slice pins s σ H x y v u Q I rx ry q hs
 ·exact h' value slice pins s σ H x y v u Q I rx ry q hs
theorem MtR.or{id:String}{r r':V->List V->Hp->VK->Prop}(h:MtR X id r)(h':MtR X id r'):MtR X id (fun x xs H Q=>r x xs H Q∨r' x xs H Q):=by
 intro pins s σ H x xs v us Q I rx rs q
 rcases q with q|q
 ·exact h pins s σ H x xs v us Q I rx rs q
 ·exact h' pins s σ H x xs v us Q I rx rs q
theorem pe_ix{r:R2}(hr:IxR X r)(ha:PE X a ta)(hb:PE X b tb)(hs:PlainIx b):PE X (.Subscript a b pos) (tOp r ta tb):=by
 intro pins s σ H Q I h
 exact Subscript_ (binT ha hb I h fun v u s2 x y H2 I2 rx ry q=>hr a b pins s2 σ H2 x y v u Q I2 rx ry q (hs _ _))
def rIxL(K:PySem.W.Frag):R2:=fun x y H Q=>∃p xs i v,x=.ref p/\y=.int i/\SqL K H p xs/\atI xs i=some v/\Q v H
def rIxT(K:PySem.W.Frag):R2:=fun x y H Q=>∃p xs i v,x=.ref p/\y=.int i/\SqT K H p xs/\atI xs i=some v/\Q v H
def rIxS:R2:=fun x y H Q=>∃z i c,x=.str z/\y=.int i/\z.length<=sizeLine/\atI z.cps.toList i=some c/\Q (.str ⟨#[c]⟩) H
theorem ix_list:IxR X (rIxL X.K):=by
 intro value slice pins s σ H x y v u Q I rx ry h hs
 obtain⟨p,xs,i,z,rfl,rfl,hq,he,q⟩:=h
 cases rx
 obtain⟨t,rfl⟩:=ry
 obtain⟨its,r,pl,hz⟩:=I.list hq
 obtain⟨j,h1,h2,h3,h4,h5⟩:=atI_get he
 obtain⟨w,ew,rw'⟩:=r.get h2
 have hl:=r.length
 have hn:=line63
 have fin:EP X pins σ Q w s:=⟨z,H,I,rw',q⟩
 by_cases h0:0<=i
 ·have hj:i.toNat=j:=by
   rw[seqIndex_of h0 h5]at h1
   exact Option.some.inj h1
  exact item_listR pl.isList h0 (by omega) (by rw[hj];simpa using ew) fin hs
 ·have hj:(i + (its.toArray.size:Int)).toNat=j:=by
   rw[seqIndex_neg (by omega) h4]at h1
   rw[List.size_toArray,← hl]
   exact Option.some.inj h1
  exact subscriptTail_builtinR (x:=w) pl.isList.typeIs slot_list_getitem.lookup
   (wpAny_getItem_list_neg (Q:=fun r s'=>r=w/\EP X pins σ Q r s') pl.isList (by omega) (by rw[List.size_toArray]<;>omega) (by omega) (by rw[hj];simpa using ew) ⟨rfl,fin⟩) hs
theorem ix_tup:IxR X (rIxT X.K):=by
 intro value slice pins s σ H x y v u Q I rx ry h hs
 obtain⟨p,xs,i,z,rfl,rfl,hq,he,q⟩:=h
 cases rx
 obtain⟨t,rfl⟩:=ry
 obtain⟨its,r,pl,hz⟩:=I.tuple hq
 obtain⟨j,h1,h2,h3,h4,h5⟩:=atI_get he
 obtain⟨w,ew,rw'⟩:=r.get h2
 have hl:=r.length
 have hn:=line63
 have fin:EP X pins σ Q w s:=⟨z,H,I,rw',q⟩
 exact subscriptTail_builtinR (x:=w) pl.typeIs slot_tuple_getitem.lookup
  (getItem_tuple (j:=j) (Q:=fun r s'=>r=w/\EP X pins σ Q r s') pl (by omega) (by omega) (by rw[List.size_toArray,← hl];exact h1) (by simpa using ew) ⟨rfl,fin⟩) hs
theorem ix_str:IxR X rIxS:=by
 intro value slice pins s σ H x y v u Q I rx ry h hs
 obtain⟨z,i,c,rfl,rfl,hz,he,q⟩:=h
 obtain⟨t,rfl⟩:=rx
 obtain⟨t',rfl⟩:=ry
 obtain⟨j,h1,h2,h3,h4,h5⟩:=atI_get he
 have hl:z.cps.toList.length=z.length:=by simp[Str.length]
 rw[hl]at h1 h4 h5
 have hn:=line63
 exact tail_any (typeIs_str s z t) slot_str_getitem.lookup (getItem_str (c:=c) (by
  have e1:decide (i < -(2 ^ 63:Int))=false:=decide_eq_false (by omega)
  have e2:decide (i ≥ 2 ^ 63)=false:=decide_eq_false (by omega)
  rw[e1,e2,Bool.or_false]) (by rw[h1];simpa using h2) ⟨.str ⟨#[c]⟩,H,I.tok _,⟨_,rfl⟩,q⟩) hs
def rIx(K:PySem.W.Frag):R2:=fun x y H Q=>rIxL K x y H Q∨rIxT K x y H Q∨rIxS x y H Q
theorem ix_seq:IxR X (rIx X.K):=ix_list.or (ix_tup.or ix_str)
theorem Inv.lst{pins:List (Addr×Obj)}{σ:St}{H:Hp}{s:Shared}{p:Addr}{xs:List V}(I:Inv X pins σ H s)(h:H p=some (.lst xs)) :
  ∃(its:List Value) (n:Nat),Vals xs its/\s.heap.get? p=some {cls:=.type "list", data:=.seq its.toArray n}/\xs.length<=sizeLine:=by
 obtain⟨z,its,n,r,e⟩:=I.hok p _ h
 exact⟨its,n,r,e,z⟩
theorem slice_bounds(lo hi:Option Int)(n:Nat):(sliceBounds lo hi none n).1=((HT.sIx n 0 lo:Nat):Int)/\(sliceBounds lo hi none n).2.1=((HT.sIx n n hi:Nat):Int)/\(sliceBounds lo hi none n).2.2=1:=by
 refine⟨?_,?_,rfl⟩
 ·cases lo with
  | none=>simp[sliceBounds,HT.sIx]
  | some i =>
   simp only[sliceBounds,HT.sIx,Option.getD_none,show (1:Int) > 0 by decide,if_true]
   by_cases h:i < 0
   ·simp only[h,if_true]<;>omega
   ·simp only[h,if_false]<;>omega
 ·cases hi with
  | none=>simp[sliceBounds,HT.sIx]
  | some i =>
   simp only[sliceBounds,HT.sIx,Option.getD_none,show (1:Int) > 0 by decide,if_true]
   by_cases h:i < 0
   ·simp only[h,if_true]<;>omega
   ·simp only[h,if_false]<;>omega
theorem slicePick_cut(its:List Value)(lo hi:Option Int):slicePick its.toArray lo hi none=((its.drop (HT.sIx its.length 0 lo)).take (HT.sIx its.length its.length hi - HT.sIx its.length 0 lo)).toArray:=by
 obtain⟨h1,h2,h3⟩:=slice_bounds lo hi its.toArray.size
 unfold slicePick
 rw[h1,h2,h3]
 simp only[sliceRange_one,pick_run,List.size_toArray]<;>rfl
theorem call_len_seq:CallR X (.builtin "len") (fun xs H Q=>∃p ys,xs=[.ref p]/\(SqL X.K H p ys∨SqT X.K H p ys)/\Q (.int ys.length) H):=by
 intro pins s σ H xs us Q I r h
 obtain⟨p,ys,rfl,hq,q⟩:=h
 obtain⟨u,rfl,rx⟩:=vals1 r
 cases rx
 have hn:=line63
 rcases hq with hq|hq
 ·obtain⟨its,r',pl,hz⟩:=I.list hq
  have hlen:=r'.length
  exact Calls.call_len_list pl.isList (by simp only[List.size_toArray]<;>omega) ⟨.int ys.length,H,I.tok _,⟨s.toks + 1,by rw[List.size_toArray,hlen]⟩,q⟩
 ·obtain⟨its,r',pl,hz⟩:=I.tuple hq
  have hlen:=r'.length
  exact len_tuple pl (by simp only[List.size_toArray]<;>omega) ⟨.int ys.length,H,I.tok _,⟨s.toks + 1,by rw[List.size_toArray,hlen]⟩,q⟩
theorem call_len_str:CallR X (.builtin "len") (fun xs H Q=>∃z,xs=[.str z]/\z.length<=sizeLine/\Q (.int z.length) H):=by
 intro pins s σ H xs us Q I r h
 obtain⟨z,rfl,hz,q⟩:=h
 obtain⟨u,rfl,t,rfl⟩:=vals1 r
 have hn:=line63
 exact len_str (by omega) ⟨.int z.length,H,I.tok _,⟨_,rfl⟩,q⟩
theorem CallR.or{f:Value}{r r':List V->Hp->VK->Prop}(h:CallR X f r)(h':CallR X f r'):CallR X f (fun xs H Q=>r xs H Q∨r' xs H Q):=by
 intro pins s σ H xs us Q I rs q
 rcases q with q|q
 ·exact h pins s σ H xs us Q I rs q
 ·exact h' pins s σ H xs us Q I rs q
theorem call_list_of:CallR X (.type "list") (fun xs H Q=>∃p ys,xs=[.ref p]/\(SqL X.K H p ys∨SqT X.K H p ys)/\∀l,H l=none->Q (.ref l) (upd H l (.lst ys))):=by
 intro pins s σ H xs us Q I r h
 obtain⟨p,ys,rfl,hq,q⟩:=h
 obtain⟨u,rfl,rx⟩:=vals1 r
 cases rx
 have fin:∀(its:List Value),Vals ys its->ys.length<=sizeLine->∀(h':Heap)(c':Nat),(∀b o',s.heap.get? b=some o'->h'.get? b=some o') →
   h'.get? s.heap.objs.size=some {cls:=.type "list", dict:=none,data:=.seq its.toArray c',slots:=#[]}->EP X pins σ Q (.ref s.heap.objs.size) {s with heap:=h' }:=fun its r' hz h' c' kp e =>
  ⟨.ref s.heap.objs.size,_,I.laid (t':=s.toks) kp (Nat.le_refl _) (show ObjOk X.prog X.w _ h' _ (.lst ys) from ⟨hz,its,c',r',e⟩),rfl,q _ (I.hok.fresh (Nat.le_refl _))⟩
 rcases hq with hq|hq
 ·obtain⟨its,r',pl,hz⟩:=I.list hq
  have hlen:=r'.length
  obtain⟨o,ho,hc,n,hd⟩:=pl.isList
  exact call_list_seq p (.inl rfl) ho hc hd (fun h' c' kp e=>fin its r' hz h' c' kp e) (by simp only[List.size_toArray]<;>omega)
 ·obtain⟨its,r',pl,hz⟩:=I.tuple hq
  have hlen:=r'.length
  obtain⟨o,ho,hc,n,hd⟩:=pl
  exact call_list_seq p (.inr rfl) ho hc hd (fun h' c' kp e=>fin its r' hz h' c' kp e) (by simp only[List.size_toArray]<;>omega)
theorem call_tuple_of:CallR X (.type "tuple") (fun xs H Q=>∃p ys,xs=[.ref p]/\((SqL X.K H p ys/\∀l,H l=none->Q (.ref l) (upd H l (.tup ys)))∨(SqT X.K H p ys/\Q (.ref p) H))):=by
 intro pins s σ H xs us Q I r h
 obtain⟨p,ys,rfl,h⟩:=h
 obtain⟨u,rfl,rx⟩:=vals1 r
 cases rx
 rcases h with ⟨hq,q⟩|⟨hq,q⟩
 ·obtain⟨its,r',pl,hz⟩:=I.list hq
  have hlen:=r'.length
  refine call_tuple_list pl.isList (fun h' kp=>?_) (by simp only[List.size_toArray]<;>omega)
  have I1:Inv X pins σ H {s with heap:=h' }:=I.kept (t':=s.toks) kp
  have I2:Inv X pins σ (upd H h'.objs.size (.tup ys)) {s with heap:=h'.push {cls:=.type "tuple", data:=.seq its.toArray} } :=
   I1.laid (t':=s.toks) (fun b o e=>Heap.get?_push_of_some _ e) (Nat.le_refl _) (show ObjOk X.prog X.w _ _ _ (.tup ys) from ⟨hz,its,r',IsTup.new _ _⟩)
  exact⟨.ref h'.objs.size,_,I2,rfl,q _ (I1.hok.fresh (Nat.le_refl _))⟩
 ·obtain⟨its,r',pl,hz⟩:=I.tuple hq
  exact call_tuple_same pl ⟨.ref p,H,I,rfl,q⟩
def tyV(K:PySem.W.Frag)(T:String)(x:V)(H:Hp):Prop:=match x with
 | .str _=>T = "str"
 | .int _=>T = "int"
 | .ref p=>(T = "list" /\ ∃xs,SqL K H p xs)∨(T = "tuple" /\ ∃o,K.lookup p=some o/\o.cls=.type "tuple" /\ o.dict=none) ∨
   (T = "dict" /\ ((∃kvs,H p=some (.dK kvs))∨∃kvs,H p=some (.dT kvs)))∨(T = "set" /\ ∃S n,H p=some (.set S n))
 | _=>False
theorem tyV_is{pins:List (Addr×Obj)}{σ:St}{H:Hp}{s:Shared}{T:String}{x:V}{v:Value}(I:Inv X pins σ H s)(r:RelV x v)(ty:tyV X.K T x H) :
  s.TypeIs v T/\∀a,v=.ref a->∃ob,s.heap.get? a=some ob/\ob.dict=none:=by
 cases x with
 | str z =>
  obtain⟨t,rfl⟩:=r
  cases (show T = "str" from ty)
  exact⟨typeIs_str s z t,fun _ e=>nomatch e⟩
 | int i =>
  obtain⟨t,rfl⟩:=r
  cases (show T = "int" from ty)
  exact⟨typeIs_int s i t,fun _ e=>nomatch e⟩
 | ref p =>
  cases r
  rcases ty with ⟨rfl,xs,hq⟩|⟨rfl,o,hk,hc,hd⟩|⟨rfl,hk⟩|⟨rfl,S,n,hk⟩
  ·obtain⟨its,_,pl,_⟩:=I.list hq
   refine⟨pl.isList.typeIs,fun a e=>?_⟩
   cases e
   obtain⟨o,n,e,c,hd,_⟩:=pl
   exact⟨o,e,hd⟩
  ·refine⟨⟨o,I.kIn p o hk,hc⟩,fun a e=>?_⟩
   cases e
   exact⟨o,I.kIn _ o hk,hd⟩
  ·have z:∃o,s.heap.get? p=some o/\o.ExactDict:=by
    rcases hk with ⟨kvs,hk⟩|⟨kvs,hk⟩
    ·obtain⟨_,_,_,_,o,_,_,e,ex,_⟩:=I.hok p _ hk
     exact⟨o,e,ex⟩
    ·obtain⟨_,_,_,_,o,_,_,e,ex,_⟩:=I.hok p _ hk
     exact⟨o,e,ex⟩
   obtain⟨o,e,ex⟩:=z
   refine⟨⟨o,e,ex.1⟩,fun a e2=>?_⟩
   cases e2
   exact⟨o,e,ex.2.1⟩
  ·obtain⟨o,_,_,_,e,ex,_⟩:=I.hok p _ hk
   refine⟨⟨o,e,ex.1⟩,fun a e2=>?_⟩
   cases e2
   exact⟨o,e,ex.2.1⟩
 | _=>exact False.elim ty
def tBM0(K:PySem.W.Frag)(T:String)(r:V->List V->Hp->VK->Prop)(to:TE):TE:=fun σ H Q=>to σ H fun x H1=>tyV K T x H1/\r x [] H1 Q
def tBM(K:PySem.W.Frag)(T:String)(r:V->List V->Hp->VK->Prop)(to:TE)(t:TA):TE:=fun σ H Q=>to σ H fun x H1=>tyV K T x H1/\t σ H1 fun xs H2=>r x xs H2 Q
variable {o e:Expr} {es:List Expr} {to:TE} {t:TA} {name:Str} {apos cpos:Pos} {T id:String} {r:V->List V->Hp->VK->Prop}
theorem pe_bm0(pa:PlainAttrs T)(slot:Slot T name id) (hty:typeOf (.builtin id)=pure (.type "method_descriptor")) (hm:MtR X id r) (ho:PE X o to)
  (hbase:attributeBase o name X.env (eval o X.env)=eval o X.env:=by rfl) (hline:(apos.endLine==cpos.line)=true:=by rfl):PE X (.Call (.Attribute o name apos) [] [] cpos) (tBM0 X.K T r to):=by
 intro pins s σ H Q I h
 refine wpAny_Call_method0_late hbase hline (thn (ho pins s σ H _ I h) fun v s1 ⟨x,H1,I1,r1,ty,q1⟩=>?_)
 obtain⟨h1,h2⟩:=tyV_is I1 r1 ty
 exact⟨T,id,pa,slot,hty,h1,h2,Calls.callWith_builtin rfl (PySem.evalArgs_none (hm pins s1 σ H1 x [] v [] Q I1 r1 .nil q1))⟩
theorem pe_bm(pa:PlainAttrs T)(slot:Slot T name id) (hty:typeOf (.builtin id)=pure (.type "method_descriptor")) (hm:MtR X id r) (ho:PE X o to) (ha:PA X (e::es) t)
  (hbase:attributeBase o name X.env (eval o X.env)=eval o X.env:=by rfl)
  (hfew:((backTo cpos (starEach (e::es) X.env)).all (fun x=>!x.1)&&(backToKw cpos (keywordEach [] X.env)).all (fun x=>x.1.isSome)
   && decide ((e::es).length + ([]:List Keyword).length + (if ([]:List Keyword).isEmpty then 0 else 1) < 30))=true:=by rfl)
  (hline:(apos.endLine==cpos.line)=true:=by rfl) (hs:starEach (e::es) X.env=(false,eval e X.env)::starEach es X.env:=by rfl) (hplain:(backTo cpos (starEach es X.env)).any (·.1)=false:=by rfl) :
  PE X (.Call (.Attribute o name apos) (e::es) [] cpos) (tBM X.K T r to t):=by
 intro pins s σ H Q I h
 refine wpAny_Call_method_late hbase hfew hline rfl (thn (ho pins s σ H _ I h) fun v s1 ⟨x,H1,I1,r1,ty,q1⟩=>?_)
 obtain⟨h1,h2⟩:=tyV_is I1 r1 ty
 refine⟨T,id,pa,slot,hty,h1,h2,?_⟩
 have hA:=ha cpos pins s1 σ H1 _ I1 q1
 rw[hs]at hA ⊢
 refine Calls.callWith_builtin (by show (false||(backTo cpos (starEach es X.env)).any (·.1))=false;rw[hplain]<;>rfl) (Calls.evalArgs_plain ?_)
 exact thn hA fun us s2 ⟨vs,H2,I2,r2,q2⟩=>hm pins s2 σ H2 x vs v us Q I2 r1 r2 q2
end
end L2
namespace L2
open PySem PySem.Spec PyProof.Rows
def MtM(X:Cx)(id:String)(r:V->List V->Hp->VK->Prop):Prop :=
 ∀(pins:List (Addr×Obj))(s:Shared)(σ:St)(H:Hp)(x:V)(xs:List V)(v:Value)(us:List Value)(Q:VK),Inv X pins σ H s->RelV x v->Vals xs us->r x xs H Q →
  wpAny (model X.prog X.w) X.A (call (.builtin id) (v::us)) (EP X pins σ Q) X.xe s
theorem Vals.one:∀{x:V}{us:List Value},Vals [x] us->∃u,us=[u]/\RelV x u
 | _,_,.cons r .nil=>⟨_,rfl,r⟩
theorem Vals.two:∀{x y:V}{us:List Value},Vals [x,y] us->∃u v,us=[u,v]/\RelV x u/\RelV y v
 | _,_,_,.cons r (.cons q .nil)=>⟨_,_,rfl,r,q⟩
theorem Vals.zero:∀{us:List Value},Vals [] us->us=[]
 | _,.nil=>rfl
theorem Vals.dropLast{xs:List V}{us:List Value}(h:Vals xs us):Vals xs.dropLast us.dropLast:=by
 induction h with
 | nil=>exact .nil
 | cons r t ih =>
  cases t with
  | nil=>exact .nil
  | cons q t'=>exact .cons r ih
theorem Vals.reverse{xs:List V}{us:List Value}(h:Vals xs us):Vals xs.reverse us.reverse:=by
 induction h with
 | nil=>exact .nil
 | cons r t ih=>rw[List.reverse_cons,List.reverse_cons];exact Vals.append ih (.cons r .nil)
theorem Vals.rep{xs:List V}{us:List Value}(h:Vals xs us):∀k:Nat,Vals (List.replicate k xs).flatten (List.replicate k us).flatten
 | 0=>.nil
 | k + 1=>by
  rw[List.replicate_succ,List.replicate_succ,List.flatten_cons,List.flatten_cons]
  exact Vals.append h (Vals.rep h k)
section
variable {X:Cx} {pins:List (Addr×Obj)} {σ:St} {H:Hp} {s:Shared} {l b:Addr} {xs ys zs:List V}
theorem Inv.lset{its its':List Value}{n:Nat}{f:Array Value->Array Value}{t':Nat}(I:Inv X pins σ H s)(hH:H l=some (.lst xs))
  (e:s.heap.get? l=some {cls:=.type "list", data:=.seq its.toArray n}) (hf:f its.toArray=its'.toArray) (hv:Vals ys its') (hz:ys.length<=sizeLine) :
  Inv X pins σ (upd H l (.lst ys)) {s with heap:=s.heap.update l (Obj.mapSeq f),toks:=t' }:=by
 have q:=PySem.IsL.update e f
 rw[hf]at q
 refine I.write (x:=l) (e:=l) (by rw[hH];exact trivial) (.inl rfl) (fun b' u hb hu=>(Heap.get?_update_other s.heap (Obj.mapSeq f) (Ne.symm hb)).trans hu) ⟨_,q⟩ ?_
 exact⟨hz,its',_,hv,q⟩
theorem Inv.fresh(I:Inv X pins σ H s):H s.heap.objs.size=none:=I.hok.fresh (Nat.le_refl _)
theorem Inv.lstM(I:Inv X pins σ H s)(hH:H l=some (.lst xs)):xs.length<=sizeLine/\∃(its:List Value) (n:Nat),Vals xs its/\xs.length=its.length/\s.heap.get? l=some {cls:=.type "list", data:=.seq its.toArray n}:=by
 obtain⟨z,its,n,r,e⟩:=I.hok l _ hH
 exact⟨z,its,n,r,r.length,e⟩
theorem notLongL{n:Nat}(h:n<=sizeLine):Builtin.List.listTooLong n=false:=by
 unfold Builtin.List.listTooLong
 exact decide_eq_false (by omega)
end
section
variable {X:Cx}
def rAppend:V->List V->Hp->VK->Prop:=fun x vs H Q=>∃l xs y,x=.ref l/\vs=[y]/\H l=some (.lst xs)/\xs.length < sizeLine/\Q .non (upd H l (.lst (xs++[y])))
theorem mt_append:MtM X "list.append" rAppend:=by
 intro pins s σ H x vs v us Q I rx rv h
 obtain⟨l,xs,y,rfl,rfl,hH,hz,q⟩:=h
 cases rx
 obtain⟨u,rfl,ru⟩:=rv.one
 obtain⟨z,its,n,r,hl,e⟩:=I.lstM hH
 refine call_meets F.slot_list_append ⟨_,e,rfl⟩ F.entry_list_append (F.args_list_append_2 _ _) (PySem.list_append l its.toArray n u (by rw[List.size_toArray];omega)) ⟨e,?_⟩
 refine⟨.non,_,I.lset (its':=its++[u]) hH e (by simp) (r.append (.cons ru .nil)) ?_,rfl,q⟩
 rw[List.length_append,List.length_singleton]
 omega
def rClear:V->List V->Hp->VK->Prop:=fun x vs H Q=>∃l xs,x=.ref l/\vs=[]/\H l=some (.lst xs)/\Q .non (upd H l (.lst []))
theorem mt_clear:MtM X "list.clear" rClear:=by
 intro pins s σ H x vs v us Q I rx rv h
 obtain⟨l,xs,rfl,rfl,hH,q⟩:=h
 cases rx
 have hus:=rv.zero
 subst hus
 obtain⟨z,its,n,r,hl,e⟩:=I.lstM hH
 refine call_meets F.slot_list_clear ⟨_,e,rfl⟩ F.entry_list_clear (F.args_list_clear_1 _) (AutoSeq1.list_clear_list_0 l its.toArray n (by rw[List.size_toArray];omega)) ⟨e,?_⟩
 exact⟨.non,_,I.lset (its':=[]) (ys:=[]) hH e rfl .nil (Nat.zero_le _),rfl,q⟩
end
section
variable {prog:Program} {w:World} {A:Around} {E:Value->Shared->Prop} {s:Shared}
end
section
variable {X:Cx}
end
end L2
namespace Att
open PySem PySem.W PySem.Calls PyProof.Rows
theorem ints_of_wellAll{P:Params}{h:Heap}:∀(ns:List Int)(vs:List Value),WellAll P h vs (ns.map WData.int)->IntsAre vs ns:=by
 intro ns
 induction ns with
 | nil =>
  intro vs w
  rw[List.map_nil]at w
  cases w
  exact .nil
 | cons n ns ih =>
  intro vs w
  rw[List.map_cons]at w
  cases w with
  | cons a b =>
   cases a
   exact .cons _ _ (ih _ b)
theorem script_of{l:OpenLaw}{n:Nat}(hn:l.most=some n){P:Params}{h:Heap}{args:List WData}{vals:List Value}
  (hpre:l.row.toRowW.claim.pre args=true) (hwl:WellAll P h vals args) :
  ∃a vs ns,vals=[Value.ref a]/\args=[WData.list (ns.map WData.int)]/\h.get? a=some {cls:=.type "list", data:=.seq vs.toArray}/\IntsAre vs ns/\ns.length<=n:=by
 have hsh:WShape.hasAll [] args [.list .int]=true:=(pre_splitW hpre).1
 have hc:l.pre.holds [] {args:=args}=true:=(pre_splitW hpre).2
 obtain⟨d,r,rfl,h1,h2⟩:=hasAllW_cons hsh
 obtain rfl:=hasAllW_nil h2
 obtain⟨xs,rfl,h3⟩:=hasW_list h1
 obtain⟨ns,rfl⟩:=items_int h3
 have hlen:ns.length<=n:=by
  unfold OpenLaw.pre at hc
  have h4:(WTm.not (.lt (.lit (.int (n:Int))) (.len (.arg 0)))).holds [] {args:=[.list (ns.map .int)]}=true:=by
   have h4:=(holds_andW hc).1
   rw[hn]at h4
   exact h4
  have h5:=condW_of h4 (w_not (w_lt w_lit (w_len_list (w_arg rfl))))
  rw[List.length_map]at h5
  refine Nat.le_of_not_lt fun q=>?_
  have q':(n:Int) < ((ns.length:Nat):Int):=by omega
  first
   | (rw[decide_eq_true q']at h5;exact absurd h5 (by decide))
   | (simp at h5;omega)
 cases hwl with
 | cons w1 w2 =>
  cases w2
  cases w1 with
  | list ho hall=>exact⟨_,_,ns,rfl,rfl,ho,ints_of_wellAll ns _ hall,hlen⟩
theorem post_true(l:OpenLaw)(args:List WData):l.row.toRowW.claim.post args (.bool true) args=true :=
 postW_of (r:=l.row.toRowW) (X:=(true==true))
  (show WShape.has [] (.bool true) .bool=true by first|rfl|decide|simp[WShape.has,WShape.arms,WShape.armsAll])
  (show (WTm.eq .res (.lit (.bool true))).value [] {args:=args,res:=some (.bool true),after:=args}=some (.bool (true==true)) from w_eq_bool (w_res rfl) w_lit) rfl
theorem attach_call{l:OpenLaw}{n:Nat}{q:Program}{loose:List Str}{XP:(Str->Option Value)->Heap->Prop}{YP:World->Heap->Prop}{d:DefRec}
  (hn:l.most=some n) (hdf:d.params.defaults=[])
  (call:∀(w:World)(s₀ s₁:Shared)(mg mb:Str->Option Value)(fa:Addr)(o:Obj)(pm cd doc:Value)(a:Addr)(vs:List Value)(ns:List Int),
   Ground q loose [] XP w s₀ mg mb s₁.heap->YP w s₁.heap →
   s₁.heap.get? fa=some o->o.data=.func (docDef d.name d.params d.body d.scope pm cd doc)->s₁.heap.CodeRec cd d.name->mg d.name=some (.ref fa) →
   s₁.heap.get? a=some {cls:=.type "list", data:=.seq vs.toArray}->IntsAre vs ns->ns.length<=n->s₁.gens=#[] →
   codeAny (model l.prog w) callerA (.call (.ref fa) ⟨[.ref a],[]⟩) (fun r s'=>r=.ok (.ret (.bool true))/\OldK s₁.heap s'.heap/\s'.os=s₁.os/\AllBare s'.gens) s₁) :
  WalkO q loose XP YP l.row.toRowW d [] (fun f vs=>PySem.call f vs):=by
 intro w s₀ s₁ mg mb G Y fa o pm cd doc dV kV ho hd hcd hD hmg hg args vals as hpre hlay hrd hwl hlo
 obtain rfl:dV=.none:=Dflts.none hD hdf
 obtain rfl:kV=.none:=Dflts.noKw hD
 obtain⟨a,vs,ns,rfl,rfl,hobj,hints,hlen⟩:=script_of hn hpre hwl
 refine enter_call (codeAny_mono (call w s₀ s₁ mg mb fa o pm cd doc a vs ns G Y ho (fd_plain hd) hcd hmg hobj hints hlen hg) fun r s' hq=>?_)
 obtain⟨rfl,h2,h3,h4⟩:=hq
 exact⟨.inl ⟨.bool true,.bool true,[],rfl,fun _=>rfl,.bool true,post_true l _,fun _=>⟨List.Pairwise.nil,fun _ hm=>(nomatch hm)⟩⟩,h2,h3,h4⟩
section
variable {prog:Program} {w:World} {A:Around} {E:Value->Shared->Prop} {s:Shared} {K:Frag}
def ledger(h:Heap)(L d:Addr):List (Addr×Obj):=(List.range h.objs.size).filterMap fun a=>if a=L∨a=d then none else (h.get? a).map fun o=>(a,o)
end
end Att
namespace L2
open PySem PySem.Spec PyProof.Rows
theorem vals_ints:∀{vs:List Value}{ns:List Int},IntsAre vs ns->Vals (ns.map V.int) vs
 | _,_,.nil=>.nil
 | _,_,.cons n t h=>.cons ⟨t,rfl⟩ (vals_ints h)
def Only(H:Hp):Prop:=∀b,H b=none∨∃o xs,H b=some (.frz o (.lst xs))
theorem law_call{P:Program}{w:World}{K:PySem.W.Frag}{mg mb:Str->Option Value}{CX:CXT}{k:Nat}{fa a:Addr}{fd:FuncData}{x:Str}{sp:Sp}{s₁:Shared}{vs:List Value}{ns:List Int}
  (KX:K.In s₁.heap) (hns:s₁.heap.Ns mainGlobals mg) (hb:s₁.heap.Ns builtinsNs mb) (hbb:∀x:Str,x ≠ "__name__" -> mb x=bootBuiltins x) (hlim:s₁.heap.NoLimit) (hg:s₁.gens=#[])
  (ha:s₁.heap.get? a=some {cls:=.type "list", data:=.seq vs.toArray}) (hi:IntsAre vs ns) (hl:ns.length<=sizeLine) (hr:Room k callerA)
  (F:∀base:Heap,K.In base->base.Ns mainGlobals mg->FnOk P w K mg base CX k fa fd [x] sp) (hbind:∀(s:Shared)(u:Value),BindsTo s fd ⟨[u],[]⟩ [(x,u)])
  (hsp:∀H:Hp,Only H->SqL K H a (ns.map V.int)->sp [.ref a] H (fun v _=>v=.bl true) fun _ _ _=>False)
  (hCX:∀H e s',CX [] H s₁ (fun _ _ _=>False) e s'->False) :
  codeAny (model P w) callerA (.call (.ref fa) ⟨[.ref a],[]⟩) (fun r s'=>r=.ok (.ret (.bool true))/\OldK s₁.heap s'.heap/\s'.os=s₁.os/\AllBare s'.gens) s₁:=by
 have rv:=vals_ints hi
 have lenV:=hi.length
 have core:∀H:Hp,Only H->SqL K H a (ns.map V.int)->HOk P w H s₁.heap->(∀b,H b≠none->b=a)->(H a≠none->K.lookup a=none) →
   codeAny (model P w) callerA (.call (.ref fa) ⟨[.ref a],[]⟩) (fun r s'=>r=.ok (.ret (.bool true))/\OldK s₁.heap s'.heap/\s'.os=s₁.os/\AllBare s'.gens) s₁:=by
  intro H hO hS hok hA hK
  have base_of:∀{b:Addr}{o:Obj},s₁.heap.get? b=some o->H b=none->(hidT s₁.heap H).get? b=some o:=fun e n=>hidT_get e n
  have noA:∀{b:Addr}{o:Obj}{es:Array DictEntry}{ep:Nat},s₁.heap.get? b=some o->o.data=.dict es ep->H b=none:=fun {b o es ep} e d=>by
   cases q:H b with
   | none=>rfl
   | some u =>
    have e':b=a:=hA b (by rw[q];simp)
    subst e'
    rw[ha]at e;cases e
    have d':Data.seq vs.toArray _=Data.dict es ep:=d
    cases d'
  have nsK:∀{b:Addr}{m:Str->Option Value},s₁.heap.Ns b m->(hidT s₁.heap H).Ns b m:=fun {b m} ⟨o,es,ep,e,d,r⟩=>⟨o,es,ep,base_of e (noA e d),d,r⟩
  have hKb:K.In (hidT s₁.heap H):=fun b o e=>base_of (KX b o e) (by
   cases q:H b with
   | none=>rfl
   | some u =>
    have e':b=a:=hA b (by rw[q];simp)
    subst e'
    rw[hK (by rw[q];simp)]at e;cases e)
  have hM:Mod K mg (hidT s₁.heap H):=⟨hKb,nsK hns,⟨mb,nsK hb,hbb⟩,let ⟨mc,h1,h2⟩:=hlim;⟨mc,nsK h1,h2⟩⟩
  have e0:Env0 P w K mg (hidT s₁.heap H) callerA [] s₁ H:=⟨rfl,hM,fun b o e=>of_hidT e,Nat.le_of_eq (hidT_size _ _),trivial,fun b hb=>absurd (show b∈([]:List Addr) from hb) (by simp),hok,.of_eq hg⟩
  refine codeAny_mono ((F _ hKb (nsK hns)).run callerA [] s₁ H ⟨[.ref a],[]⟩ [.ref a] [.ref a] _ _ hr e0 (hbind s₁ (.ref a)) (.cons rfl .nil) (hsp H hO hS)) fun r s' h=>?_
  cases r with
  | error e=>exact(hCX H e s' h).elim
  | ok fl =>
   cases fl with
   | next=>exact False.elim h
   | brk=>exact False.elim h
   | cont=>exact False.elim h
   | ret u =>
    obtain⟨v,H',os,bare,un,hok',r',q⟩:=h
    have q':v=.bl true:=q
    subst q'
    obtain rfl:u=Value.bool true:=r'
    refine⟨rfl,OldK.of_keep fun b o e=>?_,os,bare⟩
    cases q:H b with
    | none=>exact un.keep b o e q (by intro z;exact absurd (show b∈([]:List Addr) from z) (by simp)) (by simp)
    | some u =>
     rcases hO b with z|⟨ob,xs,z⟩
     ·rw[q]at z;cases z
     ·have z2:=un.frzs b ob _ z
      obtain⟨e1,_⟩:=hok b _ z
      obtain⟨e2,_⟩:=hok' b _ z2
      rw[e]at e1;cases e1
      exact e2
 cases hk:K.lookup a with
 | some o =>
  have e:=KX a o hk
  rw[ha]at e
  cases e
  refine core (fun _=>none) (fun _=>.inl rfl) (.inr ⟨_,vs.toArray,_,hk,rfl,rfl,rfl,by rw[List.size_toArray,lenV];exact hl,by simpa using rv⟩) (fun b u z=>by have z':(none:Option HO)=some u:=z;cases z') (fun b z=>absurd rfl z) fun z=>absurd rfl z
 | none =>
  refine core (fun b=>if b=a then some (.frz {cls:=.type "list", data:=.seq vs.toArray} (.lst (ns.map V.int))) else none) (fun b=>?_) (.inl (.inr ⟨{cls:=.type "list", data:=.seq vs.toArray},if_pos rfl⟩)) (fun b u z=>?_) (fun b z=>?_) fun _=>hk
  ·by_cases hb:b=a
   ·exact .inr ⟨_,_,if_pos hb⟩
   ·exact .inl (if_neg hb)
  ·by_cases hb:b=a
   ·have z':=(if_pos hb).symm.trans z
    cases z'
    subst hb
    exact⟨ha,by rw[List.length_map];exact hl,vs,_,rv,ha⟩
   ·have z':=(if_neg hb).symm.trans z
    cases z'
  ·by_cases hb:b=a
   ·exact hb
   ·exact absurd (if_neg hb) z
end L2
namespace L2
open PySem PySem.Spec PyProof.Rows
abbrev KOf{K:PySem.W.Frag}{h:Heap}(_:K.In h):PySem.W.Frag:=K
theorem walk_of{l:PySem.W.OpenLaw}{n k:Nat}{q:Program}{loose:List Str}{XP:(Str->Option Value)->Heap->Prop}{YP:World->Heap->Prop}{d:DefRec}{K:Params->PySem.W.Frag}{CX:World->CXT}{sp:World->Sp}{x:Str}
  (hn:l.most=some n) (hn2:n<=sizeLine) (hdf:d.params.defaults=[]) (hr:Room k callerA)
  (hY:∀(w:World)(h:Heap),YP w h->(K w.params).In h)
  (F:∀(w:World)(mg:Str->Option Value)(fa:Addr)(h:Heap),(K w.params).In h->h.Ns mainGlobals mg->mg d.name=some (.ref fa) →
   ∃fd:FuncData,(∀(s:Shared)(u:Value),BindsTo s fd ⟨[u],[]⟩ [(x,u)]) ∧
    ∀base:Heap,(K w.params).In base->base.Ns mainGlobals mg->FnOk l.prog w (K w.params) mg base (CX w) k fa fd [x] (sp w))
  (hsp:∀(w:World)(H:Hp)(a:Addr)(ns:List Int),ns.length<=n->Only H->SqL (K w.params) H a (ns.map V.int)->sp w [.ref a] H (fun v _=>v=.bl true) fun _ _ _=>False)
  (hCX:∀(w:World)(H:Hp)(s:Shared)(e:Value)(s':Shared),CX w [] H s (fun _ _ _=>False) e s'->False) :
  PySem.W.WalkO q loose XP YP l.row.toRowW d [] (fun f vs=>PySem.call f vs):=by
 refine Att.attach_call hn hdf fun w s₀ s₁ mg mb fa o pm cd doc a vs ns G Y ho hd hcd hmg hobj hints hlen hg=>?_
 have KX:=hY w _ Y
 obtain⟨fd,hb,hF⟩:=F w mg fa _ KX G.T.g hmg
 exact law_call KX G.T.g G.T.b G.T.builtins G.T.nolimit hg hobj hints (Nat.le_trans hlen hn2) hr hF hb (fun H hO hS=>hsp w H a ns hlen hO hS) fun H e s'=>hCX w H s₁ e s'
end L2
namespace L2
open PySem PySem.Spec PyProof.Rows
def defArgs(s:Stmt):Arguments:=match s with
 | .FunctionDef _ a _ _ _ _ _ _ _ _=>a
 | _=>{posonlyargs:=[],args:=[],vararg:=none,kwonlyargs:=[],kw_defaults:=[],kwarg:=none,defaults:=[]}
def defBody(s:Stmt):List Stmt:=match s with
 | .FunctionDef _ _ b _ _ _ _ _ _ _=>b
 | _=>[]
def defScope(s:Stmt):Scope:=match s with
 | .FunctionDef _ _ _ _ _ _ sc _ _ _=>sc
 | _=>{kind:=.function,names:=[],isGenerator:=false,isCoroutine:=false}
abbrev CX0:CXT:=fun _ _ _ _ _ _=>False
abbrev E0:XK:=fun _ _ _=>False
theorem pass0{X:Cx}:Passes CX0 X E0:=fun _ _ _ _ _ _ _ h=>h.elim
structure Fun(K:PySem.W.Frag)(x qual:Str)(st:Stmt)(f:Addr)(fd:FuncData):Prop where
 ex:∃(oc:Value) (od:Option Addr) (kV doc pm:Value) (an:Option Addr) (cdv ct:Value) (osl:Array (Option Value)),
  fd=PySem.W.fnOf x qual (defArgs st) (defBody st) (defScope st) .none kV doc pm an cdv ct/\K.lookup f=some ⟨oc,od,.func fd,osl⟩/\PySem.W.codeIn K cdv qual=true
 kp:PySem.W.keepIn K (.ref f)=true
section
variable {P:Program} {w:World} {K:PySem.W.Frag} {mg:Str->Option Value} {base:Heap}
theorem Fun.ok{x qual:Str}{st:Stmt}{f:Addr}{fd:FuncData}{N ps:List Str}{k:Nat}{sp:Sp}(F:Fun K x qual st f fd)(S:FnScope N ps (defScope st))(len:∀vs H Q E,sp vs H Q E->vs.length=ps.length)
  (hbody:∀(cdv:Value)(A:Around)(outer:List Env)(s:Shared)(H:Hp)(vs:List V)(Q:VK)(E:XK),Room k (A.deeper (envOfC qual (defScope st) s.heap.objs.size f cdv))->sp vs H Q E →
   ∃t,PSs (cxOf CX0 P w K mg base N qual (defScope st) f cdv A outer s H E).nox (defBody st) t/\t {nx:=fun _ H'=>Q .non H',rt:=Q} (start N vs) H):FnOk P w K mg base CX0 (k + 1) f fd ps sp:=by
 obtain⟨oc,od,kV,doc,pm,an,cdv,ct,osl,rfl,lk,hcd⟩:=F.ex
 refine fn_of lk hcd S len fun A outer s H vs Q E hr hsp=>?_
 obtain⟨t,h,q⟩:=hbody cdv A outer s H vs Q E hr hsp
 exact⟨t,h.nox,q⟩
theorem Fun.binds{x qual:Str}{st:Stmt}{f:Addr}{fd:FuncData}{ps:List Str}(F:Fun K x qual st f fd)
  (h:∀(kV doc pm:Value)(an:Option Addr)(cdv ct:Value)(us:List Value),us.length=ps.length->bindArgs (PySem.W.fnOf x qual (defArgs st) (defBody st) (defScope st) .none kV doc pm an cdv ct) ⟨us,[]⟩=pure (ps.zip us)):Binds K fd ps []:=by
 obtain⟨oc,od,kV,doc,pm,an,cdv,ct,osl,rfl,lk,hcd⟩:=F.ex
 exact .all (h kV doc pm an cdv ct)
theorem fun_mk{x qual:Str}{st:Stmt}{f:Addr}{oc:Value}{od an:Option Addr}{osl:Array (Option Value)}{kV doc pm cdv ct:Value}(l:K.lookup f=some ⟨oc,od,.func (PySem.W.fnOf x qual (defArgs st) (defBody st) (defScope st) .none kV doc pm an cdv ct),osl⟩)
  (c:PySem.W.codeIn K cdv qual=true) (k:PySem.W.keepIn K (.ref f)=true):Fun K x qual st f (PySem.W.fnOf x qual (defArgs st) (defBody st) (defScope st) .none kV doc pm an cdv ct):=⟨⟨oc,od,kV,doc,pm,an,cdv,ct,osl,rfl,l,c⟩,k⟩
end
theorem small1000{n:Nat}(h:n<=1000):n < sizeLine:=Nat.lt_of_le_of_lt h (by decide)
section
variable {X:Cx}
theorem pv(i:Nat){x:Str}{pos:Pos}(hN:X.N[i]?=some x:=by rfl)(hv:Vis X.env.scope x:=by first|exact Or.inl rfl|exact Or.inr (Or.inl rfl)|exact Or.inr (Or.inr rfl)) (hd:(x==("__debug__" : Str))=false:=by decide)
  (hcd:(x==("__classdict__" : Str))=false:=by decide):PE X (.Name x pos) (tVar i):=pe_var hN hv hd hcd
end
def Same(H H':Hp):Prop:=∀b o,H b=some o->H' b=some o
theorem Same.refl(H:Hp):Same H H:=fun _ _ h=>h
theorem Same.trans{H H1 H2:Hp}(a:Same H H1)(b:Same H1 H2):Same H H2:=fun c o h=>b c o (a c o h)
theorem Same.free{H H':Hp}(e:Same H H'){l:Addr}(h:H' l=Option.none):H l=Option.none:=by
 cases q:H l with
 | none=>rfl
 | some o =>
  rw[e l o q]at h
  cases h
theorem Same.seq{K:PySem.W.Frag}{H H':Hp}{a:Addr}{xs:List V}(e:Same H H')(h:SqL K H a xs):SqL K H' a xs:=by
 rcases h with (h|⟨o,h⟩)|h
 ·exact .inl (.inl (e _ _ h))
 ·exact .inl (.inr ⟨o,e _ _ h⟩)
 ·exact .inr h
end L2
section
namespace L2
open PySem PySem.Spec PyProof.Rows
section
variable {κ:Type} [DecidableEq κ]
def valV(kvs:List (κ×V))(k:κ):Option V:=(kvs.find? fun kv=>decide (kv.1=k)).map (·.2)
def putK(kvs:List (κ×V))(k:κ)(v:V):List (κ×V) :=
 if (kvs.any fun kv=>decide (kv.1=k))=true then kvs.map (fun kv=>if kv.1=k then (kv.1,v) else kv) else kvs++[(k,v)]
def dropK(kvs:List (κ×V))(k:κ):List (κ×V):=kvs.filter fun kv=>decide (kv.1≠k)
theorem valV_pos{p:κ×V}{r:List (κ×V)}{k:κ}(e:p.1=k):valV (p::r) k=some p.2:=by simp[valV,List.find?_cons,e]
theorem valV_neg{p:κ×V}{r:List (κ×V)}{k:κ}(e:¬ p.1=k):valV (p::r) k=valV r k:=by simp[valV,List.find?_cons,e]
theorem valV_any(k:κ):∀kvs:List (κ×V),(kvs.any fun kv=>decide (kv.1=k))=(valV kvs k).isSome
 | []=>rfl
 | p::r=>by
  rw[List.any_cons]
  by_cases e:p.1=k
  ·simp only[valV_pos e,decide_eq_true e,Bool.true_or,Option.isSome_some]
  ·rw[valV_neg e,decide_eq_false e,Bool.false_or];exact valV_any k r
theorem RelO.isSome_eq{o:Option V}{u:Option Value}(r:RelO o u):o.isSome=u.isSome:=by
 cases o with
 | none=>cases u with
  | none=>rfl
  | some _=>exact(show False from r).elim
 | some _=>cases u with
  | none=>exact(show False from r).elim
  | some _=>rfl
theorem RelO.getD{o:Option V}{u:Option Value}{d:V}{d':Value}(r:RelO o u)(rd:RelV d d'):RelV (o.getD d) (u.getD d'):=by
 cases o with
 | none=>cases u with
  | none=>exact rd
  | some _=>exact(show False from r).elim
 | some _=>cases u with
  | none=>exact(show False from r).elim
  | some _=>exact r
theorem KV.val{kvs:List (κ×V)}{vs:List (κ×Value)}(r:KV kvs vs)(k:κ):RelO (valV kvs k) (valueAt vs k):=by
 unfold KV at r
 induction r with
 | nil=>exact True.intro
 | @cons p q ps qs h t ih =>
  obtain⟨h1,h2⟩:=h
  by_cases e:p.1=k
  ·have e':q.1=k:=h1.symm.trans e
   have b:valueAt (q::qs) k=some q.2:=by simp[valueAt,List.find?_cons,e']
   rw[valV_pos e,b];exact h2
  ·have e':¬ q.1=k:=fun z=>e (h1.trans z)
   have b:valueAt (q::qs) k=valueAt qs k:=by simp[valueAt,List.find?_cons,e']
   rw[valV_neg e,b];exact ih
theorem KV.any{kvs:List (κ×V)}{vs:List (κ×Value)}(r:KV kvs vs)(k:κ):(kvs.any fun kv=>decide (kv.1=k))=vs.any fun kv=>decide (kv.1=k):=by
 unfold KV at r
 induction r with
 | nil=>rfl
 | cons h t ih=>rw[List.any_cons,List.any_cons,ih,h.1]
theorem KV.repl{kvs:List (κ×V)}{vs:List (κ×Value)}(r:KV kvs vs)(k:κ){y:V}{u:Value}(ry:RelV y u) :
  KV (kvs.map fun kv=>if kv.1=k then (kv.1,y) else kv) (vs.map fun kv=>if kv.1=k then (kv.1,u) else kv):=by
 unfold KV at r ⊢
 induction r with
 | nil=>exact .nil
 | @cons p q ps qs h t ih =>
  rw[List.map_cons,List.map_cons]
  refine .cons ?_ ih
  obtain⟨h1,h2⟩:=h
  by_cases e:p.1=k
  ·rw[if_pos e,if_pos (h1.symm.trans e)];exact⟨h1,ry⟩
  ·rw[if_neg e,if_neg (fun z=>e (h1.trans z))];exact⟨h1,h2⟩
theorem KV.put{kvs:List (κ×V)}{vs:List (κ×Value)}(r:KV kvs vs)(k:κ){y:V}{u:Value}(ry:RelV y u):KV (putK kvs k y) (stored vs k u):=by
 unfold putK stored
 rw[r.any k]
 by_cases e:(vs.any fun kv=>decide (kv.1=k))=true
 ·rw[if_pos e,if_pos e];exact r.repl k ry
 ·rw[if_neg e,if_neg e];exact Paired.snoc r ⟨rfl,ry⟩
theorem KV.drop{kvs:List (κ×V)}{vs:List (κ×Value)}(r:KV kvs vs)(k:κ):KV (dropK kvs k) (without vs k):=by
 unfold KV at r ⊢
 unfold dropK without
 induction r with
 | nil=>exact .nil
 | @cons p q ps qs h t ih =>
  obtain⟨h1,h2⟩:=h
  rw[List.filter_cons,List.filter_cons]
  by_cases e:p.1=k
  ·have a:¬ decide (p.1≠k)=true:=by simp[e]
   have b:¬ decide (q.1≠k)=true:=by simp[h1.symm.trans e]
   rw[if_neg a,if_neg b];exact ih
  ·have e':¬ q.1=k:=fun z=>e (h1.trans z)
   have a:decide (p.1≠k)=true:=by simp[e]
   have b:decide (q.1≠k)=true:=by simp[e']
   rw[if_pos a,if_pos b];exact .cons ⟨h1,h2⟩ ih
theorem KV.length{kvs:List (κ×V)}{vs:List (κ×Value)}(r:KV kvs vs):kvs.length=vs.length:=Paired.length r
end
abbrev KT(H:Hp):List (List Key×V)->List (List Key×Addr×Value)->Prop:=Paired fun p q=>p.1=q.1/\H q.2.1=some (.tup (p.1.map kV))/\RelV p.2 q.2.2
theorem KT.val{H:Hp}{kvs:List (List Key×V)}{xs:List (List Key×Addr×Value)}(r:KT H kvs xs)(k:List Key):RelO (valV kvs k) ((atKey xs k).map (·.2)):=by
 induction r with
 | nil=>exact True.intro
 | @cons p q ps qs h t ih =>
  obtain⟨h1,_,h2⟩:=h
  by_cases e:p.1=k
  ·have e':q.1=k:=h1.symm.trans e
   have b:atKey (q::qs) k=some q.2:=by simp[atKey,List.find?_cons,e']
   rw[valV_pos e,b];exact h2
  ·have e':¬ q.1=k:=fun z=>e (h1.trans z)
   have b:atKey (q::qs) k=atKey qs k:=by simp[atKey,List.find?_cons,e']
   rw[valV_neg e,b];exact ih
theorem KT.repl{H:Hp}{kvs:List (List Key×V)}{xs:List (List Key×Addr×Value)}(r:KT H kvs xs)(k:List Key){y:V}{u:Value}(ry:RelV y u) :
  KT H (kvs.map fun kv=>if kv.1=k then (kv.1,y) else kv) (xs.map (putAt k u)):=by
 induction r with
 | nil=>exact .nil
 | @cons p q ps qs h t ih =>
  rw[List.map_cons,List.map_cons]
  refine .cons ?_ ih
  obtain⟨h1,h2,h3⟩:=h
  unfold putAt
  by_cases e:p.1=k
  ·rw[if_pos e,if_pos (h1.symm.trans e)];exact⟨h1,h2,ry⟩
  ·rw[if_neg e,if_neg (fun z=>e (h1.trans z))];exact⟨h1,h2,h3⟩
theorem KT.put{H:Hp}{kvs:List (List Key×V)}{xs:List (List Key×Addr×Value)}(r:KT H kvs xs)(k:List Key){b:Addr}{y:V}{u:Value}(hb:H b=some (.tup (k.map kV)))(ry:RelV y u) :
  KT H (putK kvs k y) (storedH xs k b u):=by
 have e:(kvs.any fun kv=>decide (kv.1=k))=(atKey xs k).isSome:=by
  rw[valV_any,(r.val k).isSome_eq,Option.isSome_map]
 unfold putK storedH
 rw[e]
 by_cases q:(atKey xs k).isSome=true
 ·rw[if_pos q,if_pos q];exact r.repl k ry
 ·rw[if_neg q,if_neg q];exact Paired.snoc r ⟨rfl,hb,ry⟩
theorem KT.keeps{H H':Hp}{kvs:List (List Key×V)}{xs:List (List Key×Addr×Value)}(r:KT H kvs xs)(ht:∀b ys,H b=some (.tup ys)->H' b=some (.tup ys)):KT H' kvs xs :=
 Paired.mapP r fun _ _ z=>⟨z.1,ht _ _ z.2.1,z.2.2⟩
section
variable {P:Program} {w:World} {H:Hp} {h:Heap} {a:Addr}
end
def DGet(H:Hp)(a:Addr)(y:V)(r:Option V):Prop :=
 (∃kvs k,Rd H a (.dK kvs)/\y=kV k/\r=valV kvs k)∨∃kvs k b,Rd H a (.dT kvs)/\y=.ref b/\H b=some (.tup (k.map kV))/\r=valV kvs k
def DPut(H:Hp)(a:Addr)(y v:V)(H':Hp):Prop :=
 (∃kvs k,H a=some (.dK kvs)/\y=kV k/\kvs.length < sizeLine/\H'=upd H a (.dK (putK kvs k v))) ∨
 ∃kvs k b,H a=some (.dT kvs)/\y=.ref b/\H b=some (.tup (k.map kV))/\kvs.length < sizeLine/\H'=upd H a (.dT (putK kvs k v))
theorem DGet.t{H:Hp}{a b:Addr}{kvs:List (List Key×V)}{k:List Key}(e:H a=some (.dT kvs))(eb:H b=some (.tup (k.map kV))):DGet H a (.ref b) (valV kvs k):=.inr ⟨kvs,k,b,.inl e,rfl,eb,rfl⟩
theorem DPut.t{H:Hp}{a b:Addr}{kvs:List (List Key×V)}{k:List Key}{v:V}(e:H a=some (.dT kvs))(eb:H b=some (.tup (k.map kV)))(hl:kvs.length < sizeLine) :
  DPut H a (.ref b) v (upd H a (.dT (putK kvs k v))):=.inr ⟨kvs,k,b,e,rfl,eb,hl,rfl⟩
section
variable {X:Cx} {pins:List (Addr×Obj)} {σ:St} {H:Hp} {s:Shared} {a:Addr} {y v:V} {u r:Value} {o:Option V} {A:Around} {E:Value->Shared->Prop}
end
section
variable {X:Cx} {pins:List (Addr×Obj)} {σ:St} {H:Hp} {s:Shared} {a:Addr} {kvs:List (Key×V)} {k:Key} {u:Value} {A:Around} {E:Value->Shared->Prop}
end
section
variable {X:Cx} {o i e value:Expr} {pos pos' tpos:Pos} {td ty tv:TE}
end
section
variable {X:Cx} {pos:Pos}
end
structure M1(X:Cx)(o:Expr)(m:Str)(apos:Pos)(e:Expr)(cpos:Pos):Prop where
 base:attributeBase o m X.env (eval o X.env)=eval o X.env
 few:((backTo cpos (starEach [e] X.env)).all (fun x=>!x.1)&&(backToKw cpos (keywordEach [] X.env)).all (fun x=>x.1.isSome)
  && decide (([e]:List Expr).length + ([]:List Keyword).length + (if ([]:List Keyword).isEmpty then 0 else 1) < 30))=true
 line:(apos.endLine==cpos.line)=true
 trees:backTo cpos (starEach [e] X.env)=[(false,eval e X.env)]
structure M2(X:Cx)(o:Expr)(m:Str)(apos:Pos)(e f:Expr)(cpos:Pos):Prop where
 base:attributeBase o m X.env (eval o X.env)=eval o X.env
 few:((backTo cpos (starEach [e,f] X.env)).all (fun x=>!x.1)&&(backToKw cpos (keywordEach [] X.env)).all (fun x=>x.1.isSome)
  && decide (([e,f]:List Expr).length + ([]:List Keyword).length + (if ([]:List Keyword).isEmpty then 0 else 1) < 30))=true
 line:(apos.endLine==cpos.line)=true
 trees:backTo cpos (starEach [e,f] X.env)=[(false,eval e X.env),(false,eval f X.env)]
section
variable {X:Cx} {pins:List (Addr×Obj)} {σ:St} {H:Hp} {s:Shared} {a:Addr} {y d:V} {u r:Value} {o:Option V} {A:Around} {E:Value->Shared->Prop}
end
section
variable {X:Cx} {o e f:Expr} {apos cpos:Pos} {td ty tx:TE}
end
section
variable {X:Cx} {pins:List (Addr×Obj)} {σ:St} {H:Hp} {s:Shared} {a:Addr} {kvs:List (Key×V)} {A:Around} {E:Value->Shared->Prop}
end
section
variable {X:Cx} {pins:List (Addr×Obj)} {σ:St} {H:Hp} {s:Shared} {a:Addr} {y:V} {u:Value} {A:Around} {E:Value->Shared->Prop}
end
end L2
namespace L2
open PySem PySem.Spec PyProof.Rows
section
variable {κ:Type} [DecidableEq κ]
end
end L2
end
section
namespace TL
open PySem PySem.Spec PyProof.Rows L2
abbrev St:=L2.St
def nst:Expr->Bool
 | .Starred _ _=>false
 | _=>true
theorem star1{e:Expr}{es:List Expr}{env:Env}(h:nst e=true):starEach (e::es) env=(false,eval e env)::starEach es env:=by
 cases e<;>first|rfl|cases h
theorem stars{env:Env}{pos:Pos}:∀{es:List Expr},es.all nst=true->(backTo pos (starEach es env)).any (·.1)=false
 | [],_=>rfl
 | e::es,h=>by
  rw[List.all_cons,Bool.and_eq_true]at h
  rw[star1 h.1]
  show (false||(backTo pos (starEach es env)).any (·.1))=false
  rw[stars h.2]
  rfl
inductive T where
 | non|bl (b:Bool)|int (i:Int)|str (x:Str)|tup (ts:List T)|lst (ts:List T)|dct|exc (c:Str)|exf (c f:Str) (t:T)|dic (ks:List Int) (ts:List T)
abbrev kn(o:Obj):HO:=.frz o (.ext fun _=>True)
abbrev noDict:Obj:={cls:=.type "dict", data:=.dict #[] 0}
structure ExcAt(K:PySem.W.Frag)(H:Hp)(c:Str)(p:Addr):Prop where
 ex:∃(o:Obj) (C:Addr) (ws:Array Value),H p=some (kn o)/\o.cls=.ref C/\o.data=.fields ws/\PySem.W.nsIn K mainGlobals c=some (some (.ref C))
structure ExfAt(K:PySem.W.Frag)(H:Hp)(c f:Str)(p d:Addr)(od:Obj)(u:Value):Prop where
 ex:∃(o:Obj) (C:Addr) (ws:Array Value),H p=some (kn o)/\o.cls=.ref C/\o.data=.fields ws/\o.dict=some d/\PySem.W.nsIn K mainGlobals c=some (some (.ref C))
 dict:H d=some (kn od)
 look:PySem.W.lookIn f od=some (some u)
def SqF(K:PySem.W.Frag)(H:Hp)(a:Addr)(xs:List V):Prop :=
 (∃o,H a=some (.frz o (.lst xs))) ∨
  ∃(o:Obj) (its:Array Value) (n:Nat),K.lookup a=some o/\o.cls=.type "list" /\ o.dict=none/\o.data=.seq its n/\its.size<=sizeLine/\Vals xs its.toList
abbrev IntP:=Int×V
def toK(q:IntP):Key×V:=(.inl q.1,q.2)
mutual
def Rep(K:PySem.W.Frag)(H:Hp):T->V->Prop
 | .non,v=>v=.non
 | .bl b,v=>v=.bl b
 | .int i,v=>v=.int i
 | .str x,v=>v=.str x
 | .tup ts,v=>∃p vs,v=.ref p/\SqT K H p vs/\Reps K H ts vs
 | .lst ts,v=>∃p vs,v=.ref p/\SqF K H p vs/\Reps K H ts vs
 | .dct,v=>∃p,v=.ref p/\H p=some (kn noDict)
 | .exc c,v=>∃p,v=.ref p/\ExcAt K H c p
 | .exf c f t,v=>∃p,v=.ref p/\∃d od u y,ExfAt K H c f p d od u/\RelV y u/\Rep K H t y
 | .dic ks ts,v=>∃(p:Addr) (o:Obj) (kvs:List (Int×V)),v=.ref p/\H p=some (.frz o (.dK (kvs.map toK)))/\kvs.map (·.1)=ks/\Reps K H ts (kvs.map (·.2))
def Reps(K:PySem.W.Frag)(H:Hp):List T->List V->Prop
 | [],vs=>vs=[]
 | t::ts,vs=>∃v r,vs=v::r/\Rep K H t v/\Reps K H ts r
end
structure Kp(H H':Hp):Prop where
 tup:∀b xs,H b=some (.tup xs)->H' b=some (.tup xs)
 frz:∀b o u,H b=some (.frz o u)->H' b=some (.frz o u)
theorem Kp.refl(H:Hp):Kp H H:=⟨fun _ _ h=>h,fun _ _ _ h=>h⟩
theorem Kp.trans{H H1 H2:Hp}(a:Kp H H1)(b:Kp H1 H2):Kp H H2:=⟨fun c xs h=>b.tup c xs (a.tup c xs h),fun c o u h=>b.frz c o u (a.frz c o u h)⟩
theorem Kp.of{H H':Hp}(s:Same H H'):Kp H H':=⟨fun b _ h=>s b _ h,fun b _ _ h=>s b _ h⟩
theorem same_new{H:Hp}{p:Addr}(h:H p=none)(o:HO):Same H (upd H p o):=fun b u q=>by rw[upd_ne (ne_of_none q h)];exact q
theorem Kp.write{H:Hp}{p:Addr}{xs:List V}(h:H p=some (.lst xs))(o:HO):Kp H (upd H p o) :=
 ⟨fun b ys q=>by rw[upd_ne (by rintro rfl;rw[h]at q;cases q)];exact q,fun b ob u q=>by rw[upd_ne (by rintro rfl;rw[h]at q;cases q)];exact q⟩
section
variable {K:PySem.W.Frag} {H H':Hp}
theorem SqF.sq{a:Addr}{xs:List V}(h:SqF K H a xs):SqL K H a xs:=h.elim (fun ⟨o,e⟩=>.inl (.inr ⟨o,e⟩)) .inr
theorem sqF_kp{a:Addr}{xs:List V}(k:Kp H H')(h:SqF K H a xs):SqF K H' a xs:=h.elim (fun ⟨o,e⟩=>.inl ⟨o,k.frz _ _ _ e⟩) .inr
theorem sqT_kp{a:Addr}{xs:List V}(k:Kp H H')(h:SqT K H a xs):SqT K H' a xs:=by
 rcases h with (h|⟨o,h⟩)|h
 ·exact .inl (.inl (k.tup _ _ h))
 ·exact .inl (.inr ⟨o,k.frz _ _ _ h⟩)
 ·exact .inr h
theorem rep_tup{ts:List T}{v:V}:Rep K H (.tup ts) v ↔ ∃p vs,v=.ref p/\SqT K H p vs/\Reps K H ts vs:=by rw[Rep]
theorem rep_lst{ts:List T}{v:V}:Rep K H (.lst ts) v ↔ ∃p vs,v=.ref p/\SqF K H p vs/\Reps K H ts vs:=by rw[Rep]
theorem rep_int{i:Int}{v:V}:Rep K H (.int i) v ↔ v=.int i:=by rw[Rep]
theorem rep_bl{i:Bool}{v:V}:Rep K H (.bl i) v ↔ v=.bl i:=by rw[Rep]
theorem rep_str{i:Str}{v:V}:Rep K H (.str i) v ↔ v=.str i:=by rw[Rep]
theorem rep_non{v:V}:Rep K H .non v ↔ v=.non:=by rw[Rep]
theorem rep_dct{v:V}:Rep K H .dct v ↔ ∃p,v=.ref p/\H p=some (kn noDict):=by rw[Rep]
theorem rep_exc{c:Str}{v:V}:Rep K H (.exc c) v ↔ ∃p,v=.ref p/\ExcAt K H c p:=by rw[Rep]
theorem rep_exf{c f:Str}{t:T}{v:V}:Rep K H (.exf c f t) v ↔ ∃p,v=.ref p/\∃d od u y,ExfAt K H c f p d od u/\RelV y u/\Rep K H t y:=by rw[Rep]
theorem rep_dic{ks:List Int}{ts:List T}{v:V}:Rep K H (.dic ks ts) v ↔ ∃(p:Addr) (o:Obj) (kvs:List (Int×V)),v=.ref p/\H p=some (.frz o (.dK (kvs.map toK)))/\kvs.map (·.1)=ks/\Reps K H ts (kvs.map (·.2)):=by rw[Rep]
theorem ExfAt.kp{c f:Str}{p d:Addr}{od:Obj}{u:Value}(k:Kp H H')(h:ExfAt K H c f p d od u):ExfAt K H' c f p d od u:=let ⟨o,C,ws,e,r⟩:=h.ex;⟨⟨o,C,ws,k.frz _ _ _ e,r⟩,k.frz _ _ _ h.dict,h.look⟩
theorem ExcAt.kp{c:Str}{p:Addr}(k:Kp H H')(h:ExcAt K H c p):ExcAt K H' c p:=let ⟨o,C,ws,e,r⟩:=h.ex;⟨o,C,ws,k.frz _ _ _ e,r⟩
theorem reps_nil{vs:List V}:Reps K H [] vs ↔ vs=[]:=by rw[Reps]
theorem reps_cons{t:T}{ts:List T}{vs:List V}:Reps K H (t::ts) vs ↔ ∃v r,vs=v::r/\Rep K H t v/\Reps K H ts r:=by rw[Reps]
mutual
theorem Rep.kp(k:Kp H H'):∀{t:T}{v:V},Rep K H t v->Rep K H' t v
 | .non,v,h=>by rw[rep_non]at h ⊢;exact h
 | .bl b,v,h=>by rw[rep_bl]at h ⊢;exact h
 | .int i,v,h=>by rw[rep_int]at h ⊢;exact h
 | .str x,v,h=>by rw[rep_str]at h ⊢;exact h
 | .tup ts,v,h=>by
  rw[rep_tup]at h ⊢
  obtain⟨p,vs,e,s,r⟩:=h
  exact⟨p,vs,e,sqT_kp k s,Reps.kp k r⟩
 | .lst ts,v,h=>by
  rw[rep_lst]at h ⊢
  obtain⟨p,vs,e,s,r⟩:=h
  exact⟨p,vs,e,sqF_kp k s,Reps.kp k r⟩
 | .dct,v,h=>by
  rw[rep_dct]at h ⊢
  obtain⟨p,e,q⟩:=h
  exact⟨p,e,k.frz _ _ _ q⟩
 | .exc c,v,h=>by
  rw[rep_exc]at h ⊢
  obtain⟨p,e,q⟩:=h
  exact⟨p,e,q.kp k⟩
 | .exf c f t,v,h=>by
  rw[rep_exf]at h ⊢
  obtain⟨p,e,d,od,u,y,q,r,a⟩:=h
  exact⟨p,e,d,od,u,y,q.kp k,r,Rep.kp k a⟩
 | .dic ks ts,v,h=>by
  rw[rep_dic]at h ⊢
  obtain⟨p,o,kvs,e,q,ek,r⟩:=h
  exact⟨p,o,kvs,e,k.frz _ _ _ q,ek,Reps.kp k r⟩
theorem Reps.kp(k:Kp H H'):∀{ts:List T}{vs:List V},Reps K H ts vs->Reps K H' ts vs
 | [],vs,h=>by rw[reps_nil]at h ⊢;exact h
 | t::ts,vs,h=>by
  rw[reps_cons]at h ⊢
  obtain⟨v,r,e,a,b⟩:=h
  exact⟨v,r,e,Rep.kp k a,Reps.kp k b⟩
end
theorem Reps.length:∀{ts:List T}{vs:List V},Reps K H ts vs->vs.length=ts.length
 | [],vs,h=>by rw[reps_nil]at h;subst h;rfl
 | t::ts,vs,h=>by
  rw[reps_cons]at h
  obtain⟨v,r,e,a,b⟩:=h
  subst e
  simp[Reps.length b]
theorem Reps.get:∀{ts:List T}{vs:List V}{i:Nat}{t:T},Reps K H ts vs->ts[i]?=some t->∃v,vs[i]?=some v/\Rep K H t v
 | [],vs,i,t,h,e=>by simp at e
 | t::ts,vs,0,t',h,e=>by
  rw[reps_cons]at h
  obtain⟨v,r,rfl,a,b⟩:=h
  simp at e
  subst e
  exact⟨v,rfl,a⟩
 | t::ts,vs,i + 1,t',h,e=>by
  rw[reps_cons]at h
  obtain⟨v,r,rfl,a,b⟩:=h
  obtain⟨u,h1,h2⟩:=Reps.get (i:=i) b (by simpa using e)
  exact⟨u,by simpa using h1,h2⟩
theorem Reps.append:∀{ts us:List T}{vs ws:List V},Reps K H ts vs->Reps K H us ws->Reps K H (ts++us) (vs++ws)
 | [],us,vs,ws,h,q=>by rw[reps_nil]at h;subst h;exact q
 | t::ts,us,vs,ws,h,q=>by
  rw[reps_cons]at h
  obtain⟨v,r,rfl,a,b⟩:=h
  show Reps K H (t::(ts++us)) (v::(r++ws))
  rw[reps_cons]
  exact⟨v,_,rfl,a,Reps.append b q⟩
theorem Reps.one{t:T}{v:V}(h:Rep K H t v):Reps K H [t] [v]:=by
 rw[reps_cons]
 exact⟨v,[],rfl,h,reps_nil.mpr rfl⟩
theorem Reps.cons{t:T}{v:V}{ts:List T}{vs:List V}(h:Rep K H t v)(r:Reps K H ts vs):Reps K H (t::ts) (v::vs):=by
 rw[reps_cons]
 exact⟨v,vs,rfl,h,r⟩
theorem Reps.take:∀{ts:List T}{vs:List V}(n:Nat),Reps K H ts vs->Reps K H (ts.take n) (vs.take n)
 | [],vs,n,h=>by rw[reps_nil]at h;subst h;simp[reps_nil]
 | t::ts,vs,0,h=>by simp[reps_nil]
 | t::ts,vs,n + 1,h=>by
  rw[reps_cons]at h
  obtain⟨v,r,rfl,a,b⟩:=h
  exact Reps.cons a (Reps.take n b)
theorem Reps.drop:∀{ts:List T}{vs:List V}(n:Nat),Reps K H ts vs->Reps K H (ts.drop n) (vs.drop n)
 | ts,vs,0,h=>by simpa using h
 | [],vs,n + 1,h=>by rw[reps_nil]at h;subst h;simp[reps_nil]
 | t::ts,vs,n + 1,h=>by
  rw[reps_cons]at h
  obtain⟨v,r,rfl,a,b⟩:=h
  exact Reps.drop n b
theorem reps_ints(ns:List Int):Reps K H (ns.map T.int) (ns.map V.int):=by
 induction ns with
 | nil=>exact reps_nil.mpr rfl
 | cons n r ih=>exact Reps.cons (rep_int.mpr rfl) ih
end
inductive Slot where
 | no|val (t:T)|own (ts:List T)|see (ts:List T)|dic (ps:List (Int×T))|vat (t:T) (v:V)|owd (p:Addr) (kvs:List (Key×T))
def sget:List Slot->Nat->Slot
 | [],_=>.no
 | s::_,0=>s
 | _::r,n + 1=>sget r n
def sput:List Slot->Nat->Slot->List Slot
 | [],_,_=>[]
 | _::r,0,x=>x::r
 | s::r,n + 1,x=>s::sput r n x
theorem length_sput:∀(τ:List Slot)(i:Nat)(x:Slot),(sput τ i x).length=τ.length
 | [],_,_=>rfl
 | _::_,0,_=>rfl
 | _::r,n + 1,x=>by simp[sput,length_sput r n x]
theorem sget_same:∀{τ:List Slot}{i:Nat}{x:Slot},i < τ.length->sget (sput τ i x) i=x
 | [],_,_,h=>by simp at h
 | _::_,0,_,_=>rfl
 | _::r,n + 1,x,h=>by simp only[sput,sget];exact sget_same (by simpa using h)
theorem sget_ne:∀{τ:List Slot}{i j:Nat}{x:Slot},i≠j->sget (sput τ i x) j=sget τ j
 | [],_,_,_,_=>rfl
 | _::_,0,0,_,h=>absurd rfl h
 | _::_,0,_ + 1,_,_=>rfl
 | _::_,_ + 1,0,_,_=>rfl
 | _::r,i + 1,j + 1,x,h=>by simp only[sput,sget];exact sget_ne (by omega)
theorem sget_big:∀{τ:List Slot}{i:Nat},τ.length<=i->sget τ i=.no
 | [],_,_=>rfl
 | _::r,0,h=>by simp at h
 | _::r,i + 1,h=>by simp only[sget];exact sget_big (by simpa using h)
def SlotOk(K:PySem.W.Frag)(H0 H:Hp):Slot->Option (Option V)->Prop
 | .no,_=>True
 | .val t,sv=>∃v,sv=some (some v)/\Rep K H t v
 | .own ts,sv=>∃p vs,sv=some (some (.ref p))/\H p=some (.lst vs)/\Reps K H ts vs/\H0 p=none
 | .see ts,sv=>∃p vs,sv=some (some (.ref p))/\H p=some (.lst vs)/\Reps K H ts vs/\H0 p≠none
 | .dic ps,sv=>∃(p:Addr) (o:Obj) (kvs:List (Int×V)),sv=some (some (.ref p))/\H p=some (.frz o (.dK (kvs.map toK)))/\kvs.map (·.1)=ps.map (·.1)/\Reps K H (ps.map (·.2)) (kvs.map (·.2))
 | .vat t v,sv=>sv=some (some v)/\Rep K H t v
 | .owd p kvs,sv=>sv=some (some (.ref p))/\(∃vs:List (Key×V),H p=some (.dK vs)/\vs.map (·.1)=kvs.map (·.1)/\Reps K H (kvs.map (·.2)) (vs.map (·.2)))/\H0 p=none
structure RepSt(K:PySem.W.Frag)(H0 H:Hp)(σ:St)(τ:List Slot):Prop where
 same:Same H0 H
 len:τ.length=σ.length
 slot:∀i,SlotOk K H0 H (sget τ i) (σ[i]?)
 apart:∀i j ts us p,i≠j->sget τ i=.own ts->sget τ j=.own us->σ[i]?=some (some (.ref p))->σ[j]?=some (some (.ref p))->False
section
variable {K:PySem.W.Frag} {H0 H H':Hp} {σ:St} {τ:List Slot}
theorem SlotOk.mono{s:Slot}{sv:Option (Option V)}(k:Same H H')(h:SlotOk K H0 H s sv):SlotOk K H0 H' s sv:=by
 cases s with
 | no=>trivial
 | val t=>obtain⟨v,e,r⟩:=h;exact⟨v,e,r.kp (.of k)⟩
 | own ts=>obtain⟨p,vs,e,h1,r,n⟩:=h;exact⟨p,vs,e,k _ _ h1,r.kp (.of k),n⟩
 | see ts=>obtain⟨p,vs,e,h1,r,n⟩:=h;exact⟨p,vs,e,k _ _ h1,r.kp (.of k),n⟩
 | dic ps=>obtain⟨p,o,kvs,e,h1,ek,r⟩:=h;exact⟨p,o,kvs,e,k _ _ h1,ek,r.kp (.of k)⟩
 | vat t v=>exact⟨h.1,h.2.kp (.of k)⟩
 | owd p kvs=>obtain⟨e,⟨vs,h1,ek,r⟩,n⟩:=h;exact⟨e,⟨vs,k _ _ h1,ek,r.kp (.of k)⟩,n⟩
theorem RepSt.mono(R:RepSt K H0 H σ τ)(k:Same H H'):RepSt K H0 H' σ τ :=
 ⟨R.same.trans k,R.len,fun i=>(R.slot i).mono k,R.apart⟩
theorem RepSt.put{i:Nat}{t:T}{v:V}(R:RepSt K H0 H σ τ)(r:Rep K H t v):RepSt K H0 H (σ.set i (some v)) (sput τ i (.val t)):=by
 refine⟨R.same,by rw[length_sput,List.length_set];exact R.len,fun j=>?_,fun a b ts us p hab ha hb ea eb=>?_⟩
 ·by_cases hij:i=j
  ·subst hij
   by_cases hi:i < τ.length
   ·rw[sget_same hi]
    exact⟨v,List.getElem?_set_self (by rw[← R.len];exact hi),r⟩
   ·rw[sget_big (by rw[length_sput];omega)]
    trivial
  ·rw[sget_ne hij,List.getElem?_set_ne hij]
   exact R.slot j
 ·have na:i≠a:=by
   rintro rfl
   by_cases hi:i < τ.length
   ·rw[sget_same hi]at ha;cases ha
   ·rw[sget_big (by rw[length_sput];omega)]at ha;cases ha
  have nb:i≠b:=by
   rintro rfl
   by_cases hi:i < τ.length
   ·rw[sget_same hi]at hb;cases hb
   ·rw[sget_big (by rw[length_sput];omega)]at hb;cases hb
  rw[sget_ne na]at ha
  rw[sget_ne nb]at hb
  rw[List.getElem?_set_ne na]at ea
  rw[List.getElem?_set_ne nb]at eb
  exact R.apart a b ts us p hab ha hb ea eb
theorem RepSt.putOwn{i:Nat}{ts:List T}{vs:List V}{p:Addr}(R:RepSt K H0 H σ τ)(hp:H p=none)(r:Reps K H ts vs):RepSt K H0 (upd H p (.lst vs)) (σ.set i (some (.ref p))) (sput τ i (.own ts)):=by
 have S:=same_new hp (.lst vs)
 refine⟨R.same.trans S,by rw[length_sput,List.length_set];exact R.len,fun j=>?_,fun a b ts' us q hab ha hb ea eb=>?_⟩
 ·by_cases hij:i=j
  ·subst hij
   by_cases hi:i < τ.length
   ·rw[sget_same hi]
    exact⟨p,vs,List.getElem?_set_self (by rw[← R.len];exact hi),upd_same,r.kp (.of S),R.same.free hp⟩
   ·rw[sget_big (by rw[length_sput];omega)]
    trivial
  ·rw[sget_ne hij,List.getElem?_set_ne hij]
   exact(R.slot j).mono S
 ·-- an elder own list stands at a tracked place,the new one did not
  have old:∀c ts,i≠c->sget (sput τ i (.own ts')) c=.own ts->σ[c]?≠some (some (.ref p)):=fun c ts hc hcs e=>by
   rw[sget_ne hc]at hcs
   have:=R.slot c
   rw[hcs]at this
   obtain⟨p',vs',e',h1,_⟩:=this
   rw[e]at e'
   cases e'
   rw[hp]at h1
   cases h1
  have isI:∀c,i=c->∀us,sget (sput τ i (.own ts)) c=.own us->(σ.set i (some (.ref p)))[c]?=some (some (.ref p)):=fun c hc us hcs=>by
   subst hc
   by_cases hi:i < τ.length
   ·exact List.getElem?_set_self (by rw[← R.len];exact hi)
   ·rw[sget_big (by rw[length_sput];omega)]at hcs;cases hcs
  by_cases ia:i=a
  ·have z:=isI a ia _ ha
   rw[z]at ea
   cases ea
   have ib:i≠b:=fun e=>hab (ia.symm.trans e)
   rw[List.getElem?_set_ne ib]at eb
   refine old b us ib ?_ eb
   rw[sget_ne ib]at hb ⊢
   exact hb
  ·rw[List.getElem?_set_ne ia]at ea
   by_cases ib:i=b
   ·have z:=isI b ib _ hb
    rw[z]at eb
    cases eb
    refine old a ts' ia ?_ ea
    rw[sget_ne ia]at ha ⊢
    exact ha
   ·rw[List.getElem?_set_ne ib]at eb
    rw[sget_ne ia]at ha
    rw[sget_ne ib]at hb
    exact R.apart a b ts' us q hab ha hb ea eb
theorem RepSt.write{i:Nat}{ts ts2:List T}{vs2:List V}{p:Addr}{xs:List V}(R:RepSt K H0 H σ τ)(hs:sget τ i=.own ts)(hσ:σ[i]?=some (some (.ref p)))(hp:H p=some (.lst xs))(r:Reps K H ts2 vs2) :
  RepSt K H0 (upd H p (.lst vs2)) σ (sput τ i (.own ts2)):=by
 have k:=Kp.write hp (.lst vs2)
 have n0:H0 p=none:=by
  have:=R.slot i
  rw[hs]at this
  obtain⟨p',vs',e',_,_,n⟩:=this
  rw[hσ]at e'
  cases e'
  exact n
 have hi:i < τ.length:=by
  by_cases hi:i < τ.length
  ·exact hi
  ·rw[sget_big (by omega)]at hs;cases hs
 refine⟨fun b o h=>?_,by rw[length_sput];exact R.len,fun j=>?_,fun a b ts' us q hab ha hb ea eb=>?_⟩
 ·have:=R.same b o h
  rw[upd_ne (by rintro rfl;rw[n0]at h;cases h)]
  exact this
 ·by_cases hij:i=j
  ·subst hij
   rw[sget_same hi]
   exact⟨p,vs2,hσ,upd_same,r.kp k,n0⟩
  ·rw[sget_ne hij]
   have sl:=R.slot j
   cases e:sget τ j with
   | no=>trivial
   | val t=>rw[e]at sl;obtain⟨v,e1,r1⟩:=sl;exact⟨v,e1,r1.kp k⟩
   | dic ps=>rw[e]at sl;obtain⟨q,o,kvs,e1,h1,ek,r1⟩:=sl;exact⟨q,o,kvs,e1,k.frz _ _ _ h1,ek,r1.kp k⟩
   | vat t v=>rw[e]at sl;exact⟨sl.1,sl.2.kp k⟩
   | owd q kvs=>rw[e]at sl;obtain⟨e1,⟨ws,h1,ek,r1⟩,n1⟩:=sl;exact⟨e1,⟨ws,by rw[upd_ne (by rintro rfl;rw[hp]at h1;cases h1)];exact h1,ek,r1.kp k⟩,n1⟩
   | own us =>
    rw[e]at sl
    obtain⟨q,ws,e1,h1,r1,n1⟩:=sl
    have nq:q≠p:=by rintro rfl;exact R.apart i j ts us q hij hs e hσ e1
    exact⟨q,ws,e1,by rw[upd_ne nq];exact h1,r1.kp k,n1⟩
   | see us =>
    rw[e]at sl
    obtain⟨q,ws,e1,h1,r1,n1⟩:=sl
    have nq:q≠p:=by rintro rfl;exact n1 n0
    exact⟨q,ws,e1,by rw[upd_ne nq];exact h1,r1.kp k,n1⟩
 ·have old:∀c us,sget (sput τ i (.own ts2)) c=.own us->∃us',sget τ c=.own us':=fun c us h=>by
   by_cases hc:i=c
   ·subst hc;exact⟨ts,hs⟩
   ·rw[sget_ne hc]at h;exact⟨us,h⟩
  obtain⟨u1,h1⟩:=old a _ ha
  obtain⟨u2,h2⟩:=old b _ hb
  exact R.apart a b u1 u2 q hab h1 h2 ea eb
theorem RepSt.freeze{i:Nat}{ts:List T}{vs:List V}{p:Addr}{o:Obj}(R:RepSt K H0 H σ τ)(hs:sget τ i=.own ts)(hσ:σ[i]?=some (some (.ref p)))(hp:H p=some (.lst vs))(r:Reps K H ts vs) :
  RepSt K H0 (upd H p (.frz o (.lst vs))) σ (sput τ i (.val (.lst ts))):=by
 have k:=Kp.write hp (.frz o (.lst vs))
 have n0:H0 p=none:=by
  have:=R.slot i
  rw[hs]at this
  obtain⟨p',vs',e',_,_,n⟩:=this
  rw[hσ]at e'
  cases e'
  exact n
 have hi:i < τ.length:=by
  by_cases hi:i < τ.length
  ·exact hi
  ·rw[sget_big (by omega)]at hs;cases hs
 refine⟨fun b o' h=>?_,by rw[length_sput];exact R.len,fun j=>?_,fun a b ts' us q hab ha hb ea eb=>?_⟩
 ·have:=R.same b o' h
  rw[upd_ne (by rintro rfl;rw[n0]at h;cases h)]
  exact this
 ·by_cases hij:i=j
  ·subst hij
   rw[sget_same hi]
   exact⟨.ref p,hσ,rep_lst.mpr ⟨p,vs,rfl,.inl ⟨o,upd_same⟩,r.kp k⟩⟩
  ·rw[sget_ne hij]
   have sl:=R.slot j
   cases e:sget τ j with
   | no=>trivial
   | val t=>rw[e]at sl;obtain⟨v,e1,r1⟩:=sl;exact⟨v,e1,r1.kp k⟩
   | dic ps=>rw[e]at sl;obtain⟨q,o,kvs,e1,h1,ek,r1⟩:=sl;exact⟨q,o,kvs,e1,k.frz _ _ _ h1,ek,r1.kp k⟩
   | vat t v=>rw[e]at sl;exact⟨sl.1,sl.2.kp k⟩
   | owd q kvs=>rw[e]at sl;obtain⟨e1,⟨ws,h1,ek,r1⟩,n1⟩:=sl;exact⟨e1,⟨ws,by rw[upd_ne (by rintro rfl;rw[hp]at h1;cases h1)];exact h1,ek,r1.kp k⟩,n1⟩
   | own us =>
    rw[e]at sl
    obtain⟨q,ws,e1,h1,r1,n1⟩:=sl
    have nq:q≠p:=by rintro rfl;exact R.apart i j ts us q hij hs e hσ e1
    exact⟨q,ws,e1,by rw[upd_ne nq];exact h1,r1.kp k,n1⟩
   | see us =>
    rw[e]at sl
    obtain⟨q,ws,e1,h1,r1,n1⟩:=sl
    have nq:q≠p:=by rintro rfl;exact n1 n0
    exact⟨q,ws,e1,by rw[upd_ne nq];exact h1,r1.kp k,n1⟩
 ·have na:i≠a:=by
   rintro rfl
   rw[sget_same hi]at ha
   cases ha
  have nb:i≠b:=by
   rintro rfl
   rw[sget_same hi]at hb
   cases hb
  rw[sget_ne na]at ha
  rw[sget_ne nb]at hb
  exact R.apart a b ts' us q hab ha hb ea eb
end
abbrev WE:=List Slot->(T->Prop)->Prop
abbrev WT:=List Slot->(Bool->Prop)->Prop
abbrev WA:=List Slot->(List T->Prop)->Prop
structure DT where
 nx:List Slot->Prop
 rt:T->Prop
 bk:List Slot->Prop:=fun _=>False
 ct:List Slot->Prop:=fun _=>False
abbrev WS:=DT->List Slot->Prop
def up(K:PySem.W.Frag)(H0:Hp)(w:WE):TE:=fun σ H Q=>∃(τ:List Slot) (Q0:T->Prop),RepSt K H0 H σ τ/\w τ Q0/\∀t v H',Same H H'->Rep K H' t v->Q0 t->Q v H'
def upT(K:PySem.W.Frag)(H0:Hp)(w:WT):TT:=fun σ H Q=>∃(τ:List Slot) (Q0:Bool->Prop),RepSt K H0 H σ τ/\w τ Q0/\∀b H',Same H H'->Q0 b->Q b H'
def upA(K:PySem.W.Frag)(H0:Hp)(w:WA):TA:=fun σ H Q=>∃(τ:List Slot) (Q0:List T->Prop),RepSt K H0 H σ τ/\w τ Q0/\∀ts vs H',Same H H'->Reps K H' ts vs->Q0 ts->Q vs H'
def upS(K:PySem.W.Frag)(H0:Hp)(w:WS):TS:=fun D σ H=>∃(τ:List Slot) (D0:DT),RepSt K H0 H σ τ/\w D0 τ ∧
 (∀τ' σ' H',Kp H H'->RepSt K H0 H' σ' τ'->D0.nx τ'->D.nx σ' H')/\(∀t v H',Same H0 H'->Rep K H' t v->D0.rt t->D.rt v H') ∧
 (∀τ' σ' H',Kp H H'->RepSt K H0 H' σ' τ'->D0.bk τ'->D.bk σ' H')/\(∀τ' σ' H',Kp H H'->RepSt K H0 H' σ' τ'->D0.ct τ'->D.ct σ' H')
def JE(X:Cx)(e:Expr)(w:WE):Prop:=PE X e (up X.K X.H₀ w)
def JT(X:Cx)(e:Expr)(w:WT):Prop:=PT X e (upT X.K X.H₀ w)
def JA(X:Cx)(es:List Expr)(w:WA):Prop:=PA X es (upA X.K X.H₀ w)
def JS(X:Cx)(st:Stmt)(w:WS):Prop:=PS X st (upS X.K X.H₀ w)
def JSs(X:Cx)(st:List Stmt)(w:WS):Prop:=PSs X st (upS X.K X.H₀ w)
theorem pe_of{X:Cx}{e:Expr}{t t':TE}(h:PE X e t)(f:∀σ H Q,t' σ H Q->t σ H Q):PE X e t':=fun pins s σ H Q I hw=>h pins s σ H Q I (f σ H Q hw)
theorem pt_of{X:Cx}{e:Expr}{t t':TT}(h:PT X e t)(f:∀σ H Q,t' σ H Q->t σ H Q):PT X e t':=fun pins s σ H Q I hw=>h pins s σ H Q I (f σ H Q hw)
theorem pw_of{X:Cx}{e:Expr}{t t':TT}(h:PW X e t)(f:∀σ H Q,t' σ H Q->t σ H Q):PW X e t':=fun wh pins s σ H Q I hw=>h wh pins s σ H Q I (f σ H Q hw)
theorem pa_of{X:Cx}{es:List Expr}{t t':TA}(h:PA X es t)(f:∀σ H Q,t' σ H Q->t σ H Q):PA X es t':=fun pos pins s σ H Q I hw=>h pos pins s σ H Q I (f σ H Q hw)
theorem ps_of{X:Cx}{st:Stmt}{t t':TS}(h:PS X st t)(f:∀D σ H,t' D σ H->t D σ H):PS X st t':=fun pins s σ H D I hw=>h pins s σ H D I (f D σ H hw)
theorem pss_of{X:Cx}{st:List Stmt}{t t':TS}(h:PSs X st t)(f:∀D σ H,t' D σ H->t D σ H):PSs X st t':=fun pins s σ H D I hw=>h pins s σ H D I (f D σ H hw)
end TL
end
section
namespace TL
open PySem PySem.Spec PyProof.Rows L2
section
variable {X:Cx} {a b c e:Expr} {es:List Expr} {wa wb wc w:WE} {pos:Pos}
def wVar(i:Nat):WE:=fun τ Q=>match sget τ i with | .val t=>Q t | .vat t _=>Q t|_=>False
def wC(t:T):WE:=fun _ Q=>Q t
theorem je_of_var{i:Nat}(h:PE X e (tVar i)):JE X e (wVar i):=pe_of h fun σ H Q ⟨τ,Q0,R,hw,k⟩=>by
 have s:=R.slot i
 unfold wVar at hw
 cases z:sget τ i with
 | no=>rw[z]at hw;exact hw.elim
 | own ts=>rw[z]at hw;exact hw.elim
 | see ts=>rw[z]at hw;exact hw.elim
 | dic ts=>rw[z]at hw;exact hw.elim
 | owd p q=>rw[z]at hw;exact hw.elim
 | vat t v =>
  rw[z]at hw s
  exact⟨v,s.1,k t v H (.refl H) s.2 hw⟩
 | val t =>
  rw[z]at hw s
  obtain⟨v,ev,r⟩:=s
  exact⟨v,ev,k t v H (.refl H) r hw⟩
theorem jv(i:Nat){x:Str}{pos:Pos}(hN:X.N[i]?=some x:=by rfl)(hv:Vis X.env.scope x:=by first|exact Or.inl rfl|exact Or.inr (Or.inl rfl)|exact Or.inr (Or.inr rfl)) (hd:(x==("__debug__" : Str))=false:=by decide)
  (hcd:(x==("__classdict__" : Str))=false:=by decide):JE X (.Name x pos) (wVar i):=je_of_var (pe_var hN hv hd hcd)
theorem je_const{v:V}{t:T}(h:PE X e (tC v))(r:∀H,Rep X.K H t v):JE X e (wC t):=pe_of h fun σ H Q ⟨τ,Q0,R,hw,k⟩=>k t v H (.refl H) (r H) hw
theorem ji{i j pos}:JE X (.Constant (.int i) j pos) (wC (.int i)):=je_const pe_int fun _=>rep_int.mpr rfl
theorem jb{b j pos}:JE X (.Constant (.bool b) j pos) (wC (.bl b)):=je_const pe_bl fun _=>rep_bl.mpr rfl
theorem jn{j pos}:JE X (.Constant .none j pos) (wC .non):=je_const pe_non fun _=>rep_non.mpr rfl
theorem js{x j pos}:JE X (.Constant (.str x) j pos) (wC (.str x)):=je_const pe_str fun _=>rep_str.mpr rfl
theorem jglob{x:Str}{v:V}{u:Value}{t:T}{pos:Pos}(hg:Gl X x)(hm:X.mg x=some u)(r:RelV v u)(q:∀H,Rep X.K H t v) (hd:(x==("__debug__" : Str))=false:=by decide):JE X (.Name x pos) (wC t) :=
 je_const (pe_glob hg hm r hd) q
def w2(r:T->T->(T->Prop)->Prop)(wa wb:WE):WE:=fun τ Q=>wa τ fun x=>wb τ fun y=>r x y Q
def BR(X:Cx)(op:Operator)(rT:T->T->(T->Prop)->Prop):Prop:=∃r:R2,OpR X (binaryOp op) r/\∀t1 t2 v1 v2 H (Q0:T->Prop) (Q:VK),Rep X.K H t1 v1->Rep X.K H t2 v2->rT t1 t2 Q0 →
 (∀t v H',Same H H'->Rep X.K H' t v->Q0 t->Q v H')->r v1 v2 H Q
theorem up2{r:R2}{rT:T->T->(T->Prop)->Prop}{K:PySem.W.Frag}{H0:Hp} (br:∀t1 t2 v1 v2 H (Q0:T->Prop) (Q:VK),Rep K H t1 v1->Rep K H t2 v2->rT t1 t2 Q0 →
  (∀t v H',Same H H'->Rep K H' t v->Q0 t->Q v H')->r v1 v2 H Q) (σ:St) (H:Hp) (Q:VK) (h:up K H0 (w2 rT wa wb) σ H Q):tOp r (up K H0 wa) (up K H0 wb) σ H Q:=by
 obtain⟨τ,Q0,R,hw,k⟩:=h
 exact⟨τ,_,R,hw,fun t1 v1 H1 S1 r1 q1=>⟨τ,_,R.mono S1,q1,fun t2 v2 H2 S2 r2 q2=>br t1 t2 v1 v2 H2 Q0 Q (r1.kp (.of S2)) r2 q2 fun t v H' S3 r q=>k t v H' (S1.trans (S2.trans S3)) r q⟩⟩
theorem jop{op:Operator}{rT:T->T->(T->Prop)->Prop}(h:BR X op rT)(ha:JE X a wa)(hb:JE X b wb):JE X (.BinOp a op b pos) (w2 rT wa wb):=by
 obtain⟨r,ho,br⟩:=h
 exact pe_of (pe_op ho ha hb) (up2 br)
def rAddT(x y:T)(Q:T->Prop):Prop:=match x,y with | .int i,.int j=>Q (.int (i + j))|_,_=>False
def rSubT(x y:T)(Q:T->Prop):Prop:=match x,y with | .int i,.int j=>Q (.int (i - j))|_,_=>False
def Lim(n:Nat)(i:Int):Prop:=i.natAbs < 10 ^ n
def MulOk(i j:Int):Prop:=(∃m n,m<=100000/\n<=100000/\Lim m i/\Lim n j)∨Lim 19 i∨Lim 19 j
def DivOk(j:Int):Prop:=j≠0/\∃n,n<=2200/\Lim n j
def rMulT(x y:T)(Q:T->Prop):Prop:=match x,y with | .int i,.int j=>MulOk i j/\Q (.int (i * j))|_,_=>False
def rDivT(x y:T)(Q:T->Prop):Prop:=match x,y with | .int i,.int j=>DivOk j/\Q (.int (i.fdiv j))|_,_=>False
def rModT(x y:T)(Q:T->Prop):Prop:=match x,y with | .int i,.int j=>j≠0/\Q (.int (i.fmod j))|_,_=>False
def rPowT(x y:T)(Q:T->Prop):Prop:=match x,y with | .int i,.int j=>CPow i j/\Q (.int (i ^ j.toNat))|_,_=>False
theorem br_int{op:Operator}{C:Int->Int->Prop}{g:Int->Int->Int}(h:OpR X (binaryOp op) (rI C fun i j=>.int (g i j))) :
  BR X op (fun x y Q=>match x,y with | .int i,.int j=>C i j/\Q (.int (g i j))|_,_=>False):=by
 refine⟨_,h,fun t1 t2 v1 v2 H Q0 Q r1 r2 q k=>?_⟩
 cases t1<;>cases t2<;>first|exact q.elim|skip
 rename_i i j
 exact⟨i,j,rep_int.mp r1,rep_int.mp r2,q.1,k _ _ H (.refl H) (rep_int.mpr rfl) q.2⟩
theorem br_int0{op:Operator}{g:Int->Int->Int}(h:OpR X (binaryOp op) (rI0 fun i j=>.int (g i j))) :
  BR X op (fun x y Q=>match x,y with | .int i,.int j=>Q (.int (g i j))|_,_=>False):=by
 refine⟨_,h,fun t1 t2 v1 v2 H Q0 Q r1 r2 q k=>?_⟩
 cases t1<;>cases t2<;>first|exact q.elim|skip
 rename_i i j
 exact⟨i,j,rep_int.mp r1,rep_int.mp r2,k _ _ H (.refl H) (rep_int.mpr rfl) q⟩
theorem b_add:BR X .Add rAddT:=br_int0 op_add
theorem b_sub:BR X .Sub rSubT:=br_int0 op_sub
theorem log2_of_lim{n:Nat}{i:Int}(h:Lim n i):i.natAbs.log2 < 4 * n + 1:=by
 by_cases h0:i.natAbs=0
 ·rw[h0];simp
 ·rw[Nat.log2_lt h0]
  have h1:(10:Nat) ^ n<=16 ^ n:=Nat.pow_le_pow_left (by decide) n
  have h2:(16:Nat) ^ n=2 ^ (4 * n):=by rw[show (16:Nat)=2 ^ 4 from rfl,← Nat.pow_mul]
  have h3:(2:Nat) ^ (4 * n + 1)=2 ^ (4 * n) * 2:=Nat.pow_succ ..
  have h4:i.natAbs < 10 ^ n:=h
  have h5:0 < (2:Nat) ^ (4 * n):=Nat.pos_of_ne_zero (by simp)
  omega
theorem bits_of_lim{n:Nat}{i:Int}(h:Lim n i)(hn:n<=100000):Builtin.Int.intBits i<=2 ^ 20:=by
 have:=log2_of_lim h
 have e:(2:Nat) ^ 20=1048576:=by decide
 unfold Builtin.Int.intBits
 split<;>omega
theorem bits_of_19{i:Int}(h:Lim 19 i):Builtin.Int.intBits i<=64:=by
 unfold Lim at h
 have h2:i.natAbs < 2 ^ 64:=Nat.lt_of_lt_of_le h (by decide)
 unfold Builtin.Int.intBits
 split
 ·omega
 ·rename_i z
  have:=(Nat.log2_lt (n:=i.natAbs) (k:=64) (by simpa using z)).mpr h2
  omega
theorem MulOk.ok{i j:Int}(h:MulOk i j):IntMulOk i j:=by
 rcases h with ⟨m,n,hm,hn,a,b⟩|a|b
 ·exact .of_bits (bits_of_lim a hm) (bits_of_lim b hn)
 ·exact .of_left (bits_of_19 a)
 ·exact .of_right (bits_of_19 b)
theorem DivOk.ok{i j:Int}(h:DivOk j):Builtin.divisionGoesByPylong i j=false:=by
 obtain⟨_,n,hn,a⟩:=h
 have:=log2_of_lim a
 exact PyProof.noPylong_of_log2 (by omega)
theorem b_mul:BR X .Mult rMulT:=br_int (C:=MulOk) (opI fun _ _ _ _ _ _ _ hc q=>mul_int q hc.ok)
theorem b_div:BR X .FloorDiv rDivT:=br_int (C:=fun _ j=>DivOk j) (opI fun _ _ _ _ _ _ _ hc q=>floordiv_int hc.1 q (.inl hc.ok))
theorem b_mod:BR X .Mod rModT:=br_int (C:=fun _ j=>j≠0) op_modN
theorem b_pow:BR X .Pow rPowT:=br_int (C:=CPow) op_pow
def wNeg(wa:WE):WE:=fun τ Q=>wa τ fun x=>match x with | .int i=>Q (.int (-i))|_=>False
theorem jneg(ha:JE X a wa):JE X (.UnaryOp .USub a pos) (wNeg wa):=pe_of (pe_un un_neg ha) fun σ H Q ⟨τ,Q0,R,hw,k⟩=>⟨τ,_,R,hw,fun t v H1 S1 r1 q1=>by
 cases t<;>first|exact q1.elim|skip
 rename_i i
 exact⟨i,rep_int.mp r1,k _ _ H1 S1 (rep_int.mpr rfl) q1⟩⟩
def CRT(X:Cx)(op:CmpOp)(cT:T->T->(Bool->Prop)->Prop):Prop:=∃r:R2,OpR X (compareOp op) r/\∀t1 t2 v1 v2 H (Q0:Bool->Prop) (Q:VK),Rep X.K H t1 v1->Rep X.K H t2 v2->cT t1 t2 Q0 →
 (∀b,Q0 b->Q (.bl b) H)->r v1 v2 H Q
def wCmp(cT:T->T->(Bool->Prop)->Prop)(wa wb:WE):WE:=fun τ Q=>wa τ fun x=>wb τ fun y=>cT x y fun b=>Q (.bl b)
def tCmpT(cT:T->T->(Bool->Prop)->Prop)(wa wb:WE):WT:=fun τ Q=>wa τ fun x=>wb τ fun y=>cT x y Q
theorem jcmp{op:CmpOp}{cT:T->T->(Bool->Prop)->Prop}(h:CRT X op cT)(ha:JE X a wa)(hb:JE X b wb)(hm:behindInMarks op b=false):JE X (.Compare a [op] [b] pos) (wCmp cT wa wb):=by
 obtain⟨r,ho,br⟩:=h
 refine pe_of (pe_cmpR ho ha hb hm) fun σ H Q ⟨τ,Q0,R,hw,k⟩=>?_
 exact⟨τ,_,R,hw,fun t1 v1 H1 S1 r1 q1=>⟨τ,_,R.mono S1,q1,fun t2 v2 H2 S2 r2 q2=>br t1 t2 v1 v2 H2 _ Q (r1.kp (.of S2)) r2 q2 fun b q=>k _ _ H2 (S1.trans S2) (rep_bl.mpr rfl) q⟩⟩
theorem tcmp{op:CmpOp}{cT:T->T->(Bool->Prop)->Prop}(h:CRT X op cT)(ha:JE X a wa)(hb:JE X b wb)(hm:behindInMarks op b=false):JT X (.Compare a [op] [b] pos) (tCmpT cT wa wb):=by
 obtain⟨r,ho,br⟩:=h
 refine pt_of (pt_cmpR ho ha hb hm) fun σ H Q ⟨τ,Q0,R,hw,k⟩=>?_
 exact⟨τ,_,R,hw,fun t1 v1 H1 S1 r1 q1=>⟨τ,_,R.mono S1,q1,fun t2 v2 H2 S2 r2 q2=>br t1 t2 v1 v2 H2 _ _ (r1.kp (.of S2)) r2 q2 fun b q=>⟨b,rfl,k _ H2 (S1.trans S2) q⟩⟩⟩
def cLtT(x y:T)(Q:Bool->Prop):Prop:=match x,y with | .int i,.int j=>Q (decide (i < j))|_,_=>False
def cLeT(x y:T)(Q:Bool->Prop):Prop:=match x,y with | .int i,.int j=>Q (decide (i<=j))|_,_=>False
def cGtT(x y:T)(Q:Bool->Prop):Prop:=match x,y with | .int i,.int j=>Q (decide (j < i))|_,_=>False
def cGeT(x y:T)(Q:Bool->Prop):Prop:=match x,y with | .int i,.int j=>Q (decide (j<=i))|_,_=>False
theorem cr_int{op:CmpOp}{g:Int->Int->Bool}(h:OpR X (compareOp op) (rI0 fun i j=>.bl (g i j))) :
  CRT X op (fun x y Q=>match x,y with | .int i,.int j=>Q (g i j)|_,_=>False):=by
 refine⟨_,h,fun t1 t2 v1 v2 H Q0 Q r1 r2 q k=>?_⟩
 cases t1<;>cases t2<;>first|exact q.elim|skip
 rename_i i j
 exact⟨i,j,rep_int.mp r1,rep_int.mp r2,k _ q⟩
theorem c_lt:CRT X .Lt cLtT:=cr_int op_lt
theorem c_le:CRT X .LtE cLeT:=cr_int op_le
theorem c_gt:CRT X .Gt cGtT:=cr_int op_gt
theorem c_ge:CRT X .GtE cGeT:=cr_int op_ge
mutual
def eqT:T->T->Bool
 | .non,.non=>true
 | .bl a,.bl b=>a==b
 | .bl a,.int b=>decide ((if a then 1 else 0)=b)
 | .int a,.bl b=>decide (a=(if b then 1 else 0))
 | .int a,.int b=>decide (a=b)
 | .str a,.str b=>a==b
 | .tup xs,.tup ys=>eqTs xs ys
 | .lst xs,.lst ys=>eqTs xs ys
 | _,_=>false
def eqTs:List T->List T->Bool
 | [],[]=>true
 | x::xs,y::ys=>eqT x y&&eqTs xs ys
 | _,_=>false
end
theorem eqTb(a b:Bool):eqT (.bl a) (.bl b)=(a==b):=rfl
theorem eqTe(a b:Int):eqT (.int a) (.int b)=decide (a=b):=rfl
theorem eqTf(a b:Str):eqT (.str a) (.str b)=(a==b):=rfl
theorem eqTg(a b:List T):eqT (.tup a) (.tup b)=eqTs a b:=rfl
theorem eqTh(a b:List T):eqT (.lst a) (.lst b)=eqTs a b:=rfl
theorem eqTj(x y:T)(xs ys:List T):eqTs (x::xs) (y::ys)=(eqT x y&&eqTs xs ys):=rfl
mutual
def pd:T->PyData
 | .non=>.none
 | .bl b=>.bool b
 | .int i=>.int i
 | .str x=>.str x
 | .tup ts=>.tuple (pds ts)
 | .lst ts=>.list (pds ts)
 | .dct=>.dict []
 | .exc _=>.dict []
 | .exf _ _ _=>.dict []
 | .dic _ _=>.dict []
def pds:List T->List PyData
 | []=>[]
 | t::ts=>pd t::pds ts
end
mutual
theorem eqT_pd:∀x y:T,PyData.eqv (pd x) (pd y)=eqT x y
 | .tup xs,.tup ys=>by simp only[pd,PyData.eqv,eqTg,eqTh];exact eqTs_pd xs ys
 | .lst xs,.lst ys=>by simp only[pd,PyData.eqv,eqTg,eqTh];exact eqTs_pd xs ys
 | .non,y=>by cases y<;>simp only[pd,PyData.eqv]<;>rfl
 | .bl _,y=>by cases y<;>simp only[pd,PyData.eqv]<;>rfl
 | .int _,y=>by cases y<;>simp only[pd,PyData.eqv]<;>rfl
 | .str _,y=>by cases y<;>simp only[pd,PyData.eqv]<;>rfl
 | .tup _,.non=>by simp only[pd,PyData.eqv]<;>rfl
 | .tup _,.bl _=>by simp only[pd,PyData.eqv]<;>rfl
 | .tup _,.int _=>by simp only[pd,PyData.eqv]<;>rfl
 | .tup _,.str _=>by simp only[pd,PyData.eqv]<;>rfl
 | .tup _,.lst _=>by simp only[pd,PyData.eqv]<;>rfl
 | .tup _,.dct=>by simp only[pd,PyData.eqv]<;>rfl
 | .tup _,.exc _=>by simp only[pd,PyData.eqv]<;>rfl
 | .tup _,.exf _ _ _=>by simp only[pd,PyData.eqv]<;>rfl
 | .tup _,.dic _ _=>by simp only[pd,PyData.eqv]<;>rfl
 | .lst _,.dct=>by simp only[pd,PyData.eqv]<;>rfl
 | .lst _,.exc _=>by simp only[pd,PyData.eqv]<;>rfl
 | .lst _,.exf _ _ _=>by simp only[pd,PyData.eqv]<;>rfl
 | .lst _,.dic _ _=>by simp only[pd,PyData.eqv]<;>rfl
 | .dct,y=>by cases y<;>simp only[pd,PyData.eqv]<;>rfl
 | .exc _,y=>by cases y<;>simp only[pd,PyData.eqv]<;>rfl
 | .exf _ _ _,y=>by cases y<;>simp only[pd,PyData.eqv]<;>rfl
 | .dic _ _,y=>by cases y<;>simp only[pd,PyData.eqv]<;>rfl
 | .lst _,.non=>by simp only[pd,PyData.eqv]<;>rfl
 | .lst _,.bl _=>by simp only[pd,PyData.eqv]<;>rfl
 | .lst _,.int _=>by simp only[pd,PyData.eqv]<;>rfl
 | .lst _,.str _=>by simp only[pd,PyData.eqv]<;>rfl
 | .lst _,.tup _=>by simp only[pd,PyData.eqv]<;>rfl
theorem eqTs_pd:∀xs ys:List T,PyData.eqvAll (pds xs) (pds ys)=eqTs xs ys
 | [],[]=>by simp only[pds,PyData.eqvAll]<;>rfl
 | [],_::_=>by simp only[pds,PyData.eqvAll]<;>rfl
 | _::_,[]=>by simp only[pds,PyData.eqvAll]<;>rfl
 | x::xs,y::ys=>by simp only[pds,PyData.eqvAll,eqTj];rw[eqT_pd x y,eqTs_pd xs ys]
end
def plain(t:T):Bool:=(pd t).canLay0
def dep(t:T):Nat:=(pd t).depth
mutual
theorem reads_of{pins:List (Addr×Obj)}{s:Shared}{σ:St}{H:Hp}(I:Inv X pins σ H s):∀{t:T}{v:V}{u:Value},plain t=true->Rep X.K H t v->RelV v u->∃as,Reads s.heap u (pd t) as
 | .non,v,u,hp,r,q=>by rw[rep_non]at r;subst r;cases q;exact⟨_,.none⟩
 | .bl b,v,u,hp,r,q=>by rw[rep_bl]at r;subst r;cases q;exact⟨_,.bool b⟩
 | .int i,v,u,hp,r,q=>by rw[rep_int]at r;subst r;obtain⟨t,rfl⟩:=q;exact⟨_,.int i t⟩
 | .str x,v,u,hp,r,q=>by rw[rep_str]at r;subst r;obtain⟨t,rfl⟩:=q;exact⟨_,.str x t⟩
 | .tup ts,v,u,hp,r,q=>by
  rw[rep_tup]at r
  obtain⟨p,vs,rfl,sq,rr⟩:=r
  cases q
  obtain⟨its,rv,⟨o,ho,hc,n,hd⟩,_⟩:=I.tuple sq
  obtain⟨as,ra⟩:=readss_of I (show PyData.canLayAll0 (pds ts)=true from by simpa [plain,pd,PyData.canLay0] using hp) rr rv
  exact⟨_,.tuple ho hc hd (by simpa using ra)⟩
 | .lst ts,v,u,hp,r,q=>by
  rw[rep_lst]at r
  obtain⟨p,vs,rfl,sq,rr⟩:=r
  cases q
  obtain⟨its,rv,pl,_⟩:=I.list sq.sq
  obtain⟨o,ho,hc,n,hd⟩:=pl.isList
  obtain⟨as,ra⟩:=readss_of I (show PyData.canLayAll0 (pds ts)=true from by simpa [plain,pd,PyData.canLay0] using hp) rr rv
  exact⟨_,.list ho hc hd (by simpa using ra)⟩
 | .dct,v,u,hp,r,q=>by simp[plain,pd,PyData.canLay0]at hp
 | .exc _,v,u,hp,r,q=>by simp[plain,pd,PyData.canLay0]at hp
 | .exf _ _ _,v,u,hp,r,q=>by simp[plain,pd,PyData.canLay0]at hp
 | .dic _ _,v,u,hp,r,q=>by simp[plain,pd,PyData.canLay0]at hp
theorem readss_of{pins:List (Addr×Obj)}{s:Shared}{σ:St}{H:Hp}(I:Inv X pins σ H s):∀{ts:List T}{vs:List V}{us:List Value},PyData.canLayAll0 (pds ts)=true->Reps X.K H ts vs->Vals vs us->∃as,ReadsAll s.heap us (pds ts) as
 | [],vs,us,hp,r,q=>by rw[reps_nil]at r;subst r;cases q;exact⟨_,.nil⟩
 | t::ts,vs,us,hp,r,q=>by
  have hp':((pd t).canLay0&&PyData.canLayAll0 (pds ts))=true:=hp
  rw[Bool.and_eq_true]at hp'
  rw[reps_cons]at r
  obtain⟨v,vr,rfl,r1,r2⟩:=r
  cases q with
  | cons q1 q2 =>
   obtain⟨as,a1⟩:=reads_of I hp'.1 r1 q1
   obtain⟨bs,a2⟩:=readss_of I hp'.2 r2 q2
   exact⟨_,.cons a1 a2⟩
end
def EqOk(x y:T):Prop:=plain x=true/\plain y=true/\min (dep x) (dep y)<=60
def cEqT(x y:T)(Q:Bool->Prop):Prop:=match x,y with
 | .int i,.int j=>Q (decide (i=j))
 | x,y=>EqOk x y/\Q (eqT x y)
def cNeT(x y:T)(Q:Bool->Prop):Prop:=match x,y with
 | .int i,.int j=>Q (!decide (i=j))
 | x,y=>EqOk x y/\Q (!eqT x y)
theorem ok_ints(i j:Int):EqOk (.int i) (.int j):=by
 refine⟨by simp[plain,pd,PyData.canLay0],by simp[plain,pd,PyData.canLay0],by simp[dep,pd,PyData.depth]⟩
theorem cEqT_gen{x y:T}{Q:Bool->Prop}(h:cEqT x y Q):EqOk x y/\Q (eqT x y):=by
 unfold cEqT at h
 split at h
 ·exact⟨ok_ints _ _,by simpa only [eqTe] using h⟩
 ·exact h
theorem cNeT_gen{x y:T}{Q:Bool->Prop}(h:cNeT x y Q):EqOk x y/\Q (!eqT x y):=by
 unfold cNeT at h
 split at h
 ·exact⟨ok_ints _ _,by simpa only [eqTe] using h⟩
 ·exact h
theorem c_eq{k:Nat}(hr:Room k X.A):CRT X .Eq cEqT:=by
 refine⟨fun x y H Q=>∃t1 t2,Rep X.K H t1 x/\Rep X.K H t2 y/\EqOk t1 t2/\Q (.bl (eqT t1 t2)) H,?_,fun t1 t2 v1 v2 H Q0 Q r1 r2 q k=>?_⟩
 ·intro pins s σ H x y v u Q I rx ry h
  obtain⟨t1,t2,r1,r2,⟨p1,p2,hd⟩,q⟩:=h
  obtain⟨as,a1⟩:=reads_of I p1 r1 rx
  obtain⟨bs,a2⟩:=reads_of I p2 r2 ry
  have hu:=hr.units
  have hd':min (pd t1).depth (pd t2).depth<=60:=hd
  refine SeqAt.compareEq_reads a1 a2 p1 p2 (by omega) ⟨.bl _,H,I,rfl,?_⟩
  rw[eqT_pd]
  exact q
 ·obtain⟨ok,q⟩:=cEqT_gen q
  exact⟨t1,t2,r1,r2,ok,k _ q⟩
theorem c_ne{k:Nat}(hr:Room k X.A):CRT X .NotEq cNeT:=by
 refine⟨fun x y H Q=>∃t1 t2,Rep X.K H t1 x/\Rep X.K H t2 y/\EqOk t1 t2/\Q (.bl (!eqT t1 t2)) H,?_,fun t1 t2 v1 v2 H Q0 Q r1 r2 q k=>?_⟩
 ·intro pins s σ H x y v u Q I rx ry h
  obtain⟨t1,t2,r1,r2,⟨p1,p2,hd⟩,q⟩:=h
  obtain⟨as,a1⟩:=reads_of I p1 r1 rx
  obtain⟨bs,a2⟩:=reads_of I p2 r2 ry
  have hu:=hr.units
  have hd':min (pd t1).depth (pd t2).depth<=60:=hd
  refine SeqAt.compareNe_reads a1 a2 p1 p2 (by omega) ⟨.bl _,H,I,rfl,?_⟩
  rw[eqT_pd]
  exact q
 ·obtain⟨ok,q⟩:=cNeT_gen q
  exact⟨t1,t2,r1,r2,ok,k _ q⟩
def isNonT:T->Bool
 | .non=>true
 | _=>false
def cIsN(x y:T)(Q:Bool->Prop):Prop:=match y with
 | .non=>Q (isNonT x)
 | _=>False
def cNotN(x y:T)(Q:Bool->Prop):Prop:=match y with
 | .non=>Q (!isNonT x)
 | _=>False
theorem rep_is_non{K:PySem.W.Frag}{H:Hp}{t:T}{v:V}(r:Rep K H t v):decide (v=.non)=isNonT t:=by
 cases t with
 | non=>rw[rep_non]at r;subst r;rfl
 | bl b=>rw[rep_bl]at r;subst r;rfl
 | int b=>rw[rep_int]at r;subst r;rfl
 | str b=>rw[rep_str]at r;subst r;rfl
 | tup b=>rw[rep_tup]at r;obtain⟨p,vs,rfl,_⟩:=r;rfl
 | lst b=>rw[rep_lst]at r;obtain⟨p,vs,rfl,_⟩:=r;rfl
 | dct=>rw[rep_dct]at r;obtain⟨p,rfl,_⟩:=r;rfl
 | exc c=>rw[rep_exc]at r;obtain⟨p,rfl,_⟩:=r;rfl
 | exf c f t=>rw[rep_exf]at r;obtain⟨p,rfl,_⟩:=r;rfl
 | dic ks ts=>rw[rep_dic]at r;obtain⟨p,o,kvs,rfl,_⟩:=r;rfl
theorem c_is:CRT X .Is cIsN:=by
 refine⟨_,op_isN,fun t1 t2 v1 v2 H Q0 Q r1 r2 q k=>?_⟩
 cases t2<;>first|exact q.elim|skip
 refine⟨rep_non.mp r2,?_⟩
 rw[rep_is_non r1]
 exact k _ q
theorem c_isnot:CRT X .IsNot cNotN:=by
 refine⟨_,op_notN,fun t1 t2 v1 v2 H Q0 Q r1 r2 q k=>?_⟩
 cases t2<;>first|exact q.elim|skip
 refine⟨rep_non.mp r2,?_⟩
 rw[rep_is_non r1]
 exact k _ q
def wChain(c1 c2:T->T->(Bool->Prop)->Prop)(wa wb wc:WE):WE:=fun τ Q=>wa τ fun x=>wb τ fun y=>c1 x y fun k=>(k=true->wc τ fun z=>c2 y z fun b=>Q (.bl b))/\(k=false->Q (.bl false))
def tChainT(c1 c2:T->T->(Bool->Prop)->Prop)(wa wb wc:WE):WT:=fun τ Q=>wa τ fun x=>wb τ fun y=>c1 x y fun k=>(k=true->wc τ fun z=>c2 y z Q)/\(k=false->Q false)
theorem jchain{op op':CmpOp}{c1 c2:T->T->(Bool->Prop)->Prop}(h:CRT X op c1)(h':CRT X op' c2)(ha:JE X a wa)(hb:JE X b wb)(hc:JE X c wc)
  (hm:lastMarks [op,op'] [b,c]=false:=by with_unfolding_all rfl):JE X (.Compare a [op,op'] [b,c] pos) (wChain c1 c2 wa wb wc):=by
 obtain⟨r,ho,br⟩:=h
 obtain⟨r',ho',br'⟩:=h'
 refine pe_of (pe_chain ho ho' ha hb hc hm) fun σ H Q ⟨τ,Q0,R,hw,k⟩=>?_
 refine⟨τ,_,R,hw,fun t1 v1 H1 S1 r1 q1=>⟨τ,_,R.mono S1,q1,fun t2 v2 H2 S2 r2 q2=>br t1 t2 v1 v2 H2 _ _ (r1.kp (.of S2)) r2 q2 fun b q=>⟨b,rfl,?_⟩⟩⟩
 cases b with
 | true =>
  rw[if_pos rfl]
  exact⟨τ,_,R.mono (S1.trans S2),q.1 rfl,fun t3 v3 H3 S3 r3 q3=>br' t2 t3 v2 v3 H3 _ _ (r2.kp (.of S3)) r3 q3 fun b q=>k _ _ H3 (S1.trans (S2.trans S3)) (rep_bl.mpr rfl) q⟩
 | false =>
  rw[if_neg Bool.false_ne_true]
  exact k _ _ H2 (S1.trans S2) (rep_bl.mpr rfl) (q.2 rfl)
def JW(X:Cx)(e:Expr)(w:WT):Prop:=PW X e (upT X.K X.H₀ w)
theorem jw{e:Expr}{w:WT}(h:JW X e w):JT X e w:=PW.pt h
variable {ua ub:WT} {rest:List Expr}
def tAndT(ua ub:WT):WT:=fun τ Q=>ua τ fun k=>(k=true->ub τ Q)/\(k=false->Q false)
def tOrT(ua ub:WT):WT:=fun τ Q=>ua τ fun k=>(k=true->Q true)/\(k=false->ub τ Q)
def tNotT(ua:WT):WT:=fun τ Q=>ua τ fun k=>Q (!k)
def tVal(wa:WE):WT:=fun τ Q=>wa τ fun x=>match x with | .bl k=>Q k|_=>False
theorem tand1(ha:JT X a ua):JW X (.BoolOp .And [a] pos) ua:=pw_and1 ha
theorem tor1(ha:JT X a ua):JW X (.BoolOp .Or [a] pos) ua:=pw_or1 ha
theorem tand(ha:JT X a ua)(hb:JW X (.BoolOp .And (b::rest) pos) ub):JW X (.BoolOp .And (a::b::rest) pos) (tAndT ua ub):=pw_of (pw_and ha hb) fun σ H Q ⟨τ,Q0,R,hw,k⟩=>by
 refine⟨τ,_,R,hw,fun c H1 S1 q=>?_⟩
 cases c with
 | true=>rw[if_pos rfl];exact⟨τ,_,R.mono S1,q.1 rfl,fun b H2 S2 q=>k b H2 (S1.trans S2) q⟩
 | false=>rw[if_neg Bool.false_ne_true];exact k _ H1 S1 (q.2 rfl)
theorem tor(ha:JT X a ua)(hb:JW X (.BoolOp .Or (b::rest) pos) ub):JW X (.BoolOp .Or (a::b::rest) pos) (tOrT ua ub):=pw_of (pw_or ha hb) fun σ H Q ⟨τ,Q0,R,hw,k⟩=>by
 refine⟨τ,_,R,hw,fun c H1 S1 q=>?_⟩
 cases c with
 | true=>rw[if_pos rfl];exact k _ H1 S1 (q.1 rfl)
 | false=>rw[if_neg Bool.false_ne_true];exact⟨τ,_,R.mono S1,q.2 rfl,fun b H2 S2 q=>k b H2 (S1.trans S2) q⟩
theorem tnot(ha:JT X a ua):JT X (.UnaryOp .Not a pos) (tNotT ua):=pt_of (pt_not ha) fun σ H Q ⟨τ,Q0,R,hw,k⟩=>⟨τ,_,R,hw,fun c H1 S1 q=>k _ H1 S1 q⟩
theorem tval(ha:JE X a wa)(he:∀whole,isTrue a X.env whole=(do let v ← whole;standAt a.pos;holding [v] (truthy v)):=by intro _;rfl):JT X a (tVal wa) :=
 pt_of (pt_val ha he) fun σ H Q ⟨τ,Q0,R,hw,k⟩=>⟨τ,_,R,hw,fun t v H1 S1 r q=>by
  cases t<;>first|exact q.elim|skip
  rename_i b
  exact⟨b,rep_bl.mp r,k _ H1 S1 q⟩⟩
def wAndV(wa wb:WE):WE:=fun τ Q=>wa τ fun x=>match x with | .bl k=>(k=true->wb τ Q)/\(k=false->Q (.bl false))|_=>False
def wOrV(wa wb:WE):WE:=fun τ Q=>wa τ fun x=>match x with | .bl k=>(k=true->Q (.bl true))/\(k=false->wb τ Q)|_=>False
def wNotV(wa:WE):WE:=fun τ Q=>wa τ fun x=>match x with | .bl k=>Q (.bl (!k))|_=>False
theorem jone{op}(h:JE X a wa):JE X (.BoolOp op [a] pos) wa:=pe_one h
theorem jand(ha:JE X a wa)(hb:JE X (.BoolOp .And (b::rest) pos) wb):JE X (.BoolOp .And (a::b::rest) pos) (wAndV wa wb):=pe_of (pe_and ha hb) fun σ H Q ⟨τ,Q0,R,hw,k⟩=>by
 refine⟨τ,_,R,hw,fun t v H1 S1 r q=>?_⟩
 cases t<;>first|exact q.elim|skip
 rename_i c
 refine⟨c,rep_bl.mp r,?_⟩
 cases c with
 | true=>rw[if_pos rfl];exact⟨τ,_,R.mono S1,q.1 rfl,fun t v H2 S2 r q=>k t v H2 (S1.trans S2) r q⟩
 | false=>rw[if_neg Bool.false_ne_true];exact k _ _ H1 S1 (rep_bl.mpr rfl) (q.2 rfl)
theorem jnot(ha:JE X a wa):JE X (.UnaryOp .Not a pos) (wNotV wa):=pe_of (pe_not ha) fun σ H Q ⟨τ,Q0,R,hw,k⟩=>⟨τ,_,R,hw,fun t v H1 S1 r q=>by
 cases t<;>first|exact q.elim|skip
 rename_i c
 exact⟨c,rep_bl.mp r,k _ _ H1 S1 (rep_bl.mpr rfl) q⟩⟩
def wIfE(ua:WT)(wa wb:WE):WE:=fun τ Q=>ua τ fun k=>(k=true->wa τ Q)/\(k=false->wb τ Q)
variable {ws:WA}
def aNil:WA:=fun _ Q=>Q []
def aCons(wa:WE)(ws:WA):WA:=fun τ Q=>wa τ fun x=>ws τ fun xs=>Q (x::xs)
theorem ja0:JA X [] aNil:=pa_of pa_nil fun σ H Q ⟨τ,Q0,R,hw,k⟩=>k _ _ H (.refl H) (reps_nil.mpr rfl) hw
theorem ja(ha:JE X e wa)(hr:JA X es ws)(hs:starEach (e::es) X.env=(false,eval e X.env)::starEach es X.env:=by exact star1 rfl):JA X (e::es) (aCons wa ws):=pa_of (pa_cons ha hr hs) fun σ H Q ⟨τ,Q0,R,hw,k⟩ =>
 ⟨τ,_,R,hw,fun t v H1 S1 r1 q1=>⟨τ,_,R.mono S1,q1,fun ts vs H2 S2 r2 q2=>k _ _ H2 (S1.trans S2) (.cons (r1.kp (.of S2)) r2) q2⟩⟩
def wTup(ws:WA):WE:=fun τ Q=>ws τ fun ts=>ts.length<=1000/\Q (.tup ts)
def wLst(ws:WA):WE:=fun τ Q=>ws τ fun ts=>ts.length<=1000/\Q (.lst ts)
theorem few{n:Nat}(h:n<=1000):n<=sizeLine:=Nat.le_of_lt (small1000 h)
theorem jtup{x1}(h:JA X es ws):JE X (.Tuple es x1 pos) (wTup ws):=pe_of (pe_tup h) fun σ H Q ⟨τ,Q0,R,hw,k⟩=>⟨τ,_,R,hw,fun ts vs H1 S1 r ⟨hl,q⟩ =>
 ⟨by rw[r.length];exact few hl,fun p hp=>k _ _ _ (S1.trans (same_new hp _)) (rep_tup.mpr ⟨p,vs,rfl,SqT.of upd_same,r.kp (.of (same_new hp _))⟩) q⟩⟩
def tLstF(t:TA):TE:=fun σ H Q=>t σ H fun xs H1=>xs.length<=sizeLine/\∀p o,H1 p=none->Q (.ref p) (upd H1 p (.frz o (.lst xs)))
theorem pe_lstF{t:TA}(h:PA X es t):PE X (.List es pos) (tLstF t):=by
 intro pins s σ H Q I hq
 refine wpAny_List_spliced (thn (h pos pins s σ H _ I hq) fun us s1 ⟨xs,H1,I1,r,z,q⟩=>⟨by rw[← r.length];exact z,?_⟩)
 have hf:H1 s1.heap.objs.size=none:=I1.hok.fresh (Nat.le_refl _)
 refine⟨.ref s1.heap.objs.size,upd H1 s1.heap.objs.size (.frz {cls:=.type "list", data:=.seq us.toArray} (.lst xs)),I1.laid (t':=s1.toks) (fun b u e=>Heap.get?_push_of_some _ e) (Nat.le_refl _) ?_,rfl,q _ _ hf⟩
 exact⟨Heap.get?_push_size _ rfl,z,us,0,r,Heap.get?_push_size _ rfl⟩
theorem jlst(h:JA X es ws):JE X (.List es pos) (wLst ws):=pe_of (pe_lstF h) fun σ H Q ⟨τ,Q0,R,hw,k⟩=>⟨τ,_,R,hw,fun ts vs H1 S1 r ⟨hl,q⟩ =>
 ⟨by rw[r.length];exact few hl,fun p o hp=>k _ _ _ (S1.trans (same_new hp _)) (rep_lst.mpr ⟨p,vs,rfl,.inl ⟨o,upd_same⟩,r.kp (.of (same_new hp _))⟩) q⟩⟩
def rIxTT(x y:T)(Q:T->Prop):Prop:=match x,y with
 | .tup ts,.int i=>(match atI ts i with|some t=>Q t|none=>False)
 | .lst ts,.int i=>(match atI ts i with|some t=>Q t|none=>False)
 | _,_=>False
theorem atI_reps{K:PySem.W.Frag}{H:Hp}{ts:List T}{vs:List V}{i:Int}{t:T}(r:Reps K H ts vs)(h:atI ts i=some t):∃v,atI vs i=some v/\Rep K H t v:=by
 unfold atI at h ⊢
 rw[r.length]
 cases e:ixN ts.length i with
 | none=>rw[e]at h;cases h
 | some j =>
  rw[e]at h
  exact r.get h
theorem jix(ha:JE X a wa)(hb:JE X b wb)(hs:PlainIx b:=by intro _ _;rfl):JE X (.Subscript a b pos) (w2 rIxTT wa wb):=pe_of (pe_ix ix_seq ha hb hs) (up2 fun t1 t2 v1 v2 H Q0 Q r1 r2 q k=>by
 cases t1<;>cases t2<;>first|exact q.elim|skip
 ·rename_i ts i
  rw[rep_tup]at r1
  obtain⟨p,vs,rfl,sq,rr⟩:=r1
  have q':(match atI ts i with|some t=>Q0 t|none=>False):=q
  cases e:atI ts i with
  | none=>rw[e]at q';exact q'.elim
  | some t =>
   rw[e]at q'
   obtain⟨v,ev,rv⟩:=atI_reps rr e
   exact .inr (.inl ⟨p,vs,i,v,rfl,rep_int.mp r2,sq,ev,k _ _ H (.refl H) rv q'⟩)
 ·rename_i ts i
  rw[rep_lst]at r1
  obtain⟨p,vs,rfl,sq,rr⟩:=r1
  have q':(match atI ts i with|some t=>Q0 t|none=>False):=q
  cases e:atI ts i with
  | none=>rw[e]at q';exact q'.elim
  | some t =>
   rw[e]at q'
   obtain⟨v,ev,rv⟩:=atI_reps rr e
   exact .inl ⟨p,vs,i,v,rfl,rep_int.mp r2,sq.sq,ev,k _ _ H (.refl H) rv q'⟩)
def BlR(X:Cx)(f:Value)(rT:List T->(T->Prop)->Prop):Prop:=∃r:List V->Hp->VK->Prop,CallR X f r/\∀ts vs H (Q0:T->Prop) (Q:VK),Reps X.K H ts vs->rT ts Q0 →
 (∀t v H',Same H H'->Rep X.K H' t v->Q0 t->Q v H')->r vs H Q
def wCB(rT:List T->(T->Prop)->Prop)(ws:WA):WE:=fun τ Q=>ws τ fun ts=>rT ts Q
theorem upCB{r:List V->Hp->VK->Prop}{rT:List T->(T->Prop)->Prop}{K:PySem.W.Frag}{H0:Hp} (br:∀ts vs H (Q0:T->Prop) (Q:VK),Reps K H ts vs->rT ts Q0 →
  (∀t v H',Same H H'->Rep K H' t v->Q0 t->Q v H')->r vs H Q) (σ:St) (H:Hp) (Q:VK) (h:up K H0 (wCB rT ws) σ H Q):tCB r (upA K H0 ws) σ H Q:=by
 obtain⟨τ,Q0,R,hw,k⟩:=h
 exact⟨τ,_,R,hw,fun ts vs H1 S1 r1 q1=>br ts vs H1 Q0 Q r1 q1 fun t v H' S2 r q=>k t v H' (S1.trans S2) r q⟩
theorem jblt{x:Str}{p:Pos}{id:String}{rT:List T->(T->Prop)->Prop}(h:BlR X (.builtin id) rT)(hg:Gl X x)(hm:X.mg x=none)(hv:bootBuiltins x=some (.builtin id))(ha:JA X (e::es) ws) (hn:x ≠ "__name__" := by decide)
  (hdb:(x==("__debug__" : Str))=false:=by decide) (he:starEach (e::es) X.env=(false,eval e X.env)::starEach es X.env:=by exact star1 rfl) (hpl:(backTo pos (starEach es X.env)).any (·.1)=false:=by exact stars rfl) :
  JE X (.Call (.Name x p) (e::es) [] pos) (wCB rT ws):=by
 obtain⟨r,hc,br⟩:=h
 exact pe_of (pe_callB hc hg hm hv ha hn hdb he hpl) (upCB br)
theorem jty{x:Str}{p:Pos}{id:String}{rT:List T->(T->Prop)->Prop}(h:BlR X (.type id) rT)(hg:Gl X x)(hm:X.mg x=none)(hv:bootBuiltins x=some (.type id))(ha:JA X (e::es) ws) (hn:x ≠ "__name__" := by decide)
  (hdb:(x==("__debug__" : Str))=false:=by decide) (he:starEach (e::es) X.env=(false,eval e X.env)::starEach es X.env:=by exact star1 rfl) (hpl:(backTo pos (starEach es X.env)).any (·.1)=false:=by exact stars rfl) :
  JE X (.Call (.Name x p) (e::es) [] pos) (wCB rT ws):=by
 obtain⟨r,hc,br⟩:=h
 exact pe_of (pe_callTy hc hg hm hv ha hn hdb he hpl) (upCB br)
theorem reps1{K:PySem.W.Frag}{H:Hp}{t:T}{vs:List V}(r:Reps K H [t] vs):∃v,vs=[v]/\Rep K H t v:=by
 rw[reps_cons]at r
 obtain⟨v,vr,rfl,r1,r2⟩:=r
 rw[reps_nil]at r2
 subst r2
 exact⟨v,rfl,r1⟩
theorem reps2{K:PySem.W.Frag}{H:Hp}{t t':T}{vs:List V}(r:Reps K H [t,t'] vs):∃v v',vs=[v,v']/\Rep K H t v/\Rep K H t' v':=by
 rw[reps_cons]at r
 obtain⟨v,vr,rfl,r1,r2⟩:=r
 obtain⟨v',rfl,r3⟩:=reps1 r2
 exact⟨v,v',rfl,r1,r3⟩
def rLenT(ts:List T)(Q:T->Prop):Prop:=match ts with
 | [.tup xs]=>Q (.int xs.length)
 | [.lst xs]=>Q (.int xs.length)
 | _=>False
theorem bl_len:BlR X (.builtin "len") rLenT:=by
 refine⟨_,call_len_seq,fun ts vs H Q0 Q r q k=>?_⟩
 unfold rLenT at q
 split at q
 ·obtain⟨v,rfl,r1⟩:=reps1 r
  rw[rep_tup]at r1
  obtain⟨p,ys,rfl,sq,rr⟩:=r1
  exact⟨p,ys,rfl,.inr sq,k _ _ H (.refl H) (rep_int.mpr (by rw[rr.length])) q⟩
 ·obtain⟨v,rfl,r1⟩:=reps1 r
  rw[rep_lst]at r1
  obtain⟨p,ys,rfl,sq,rr⟩:=r1
  exact⟨p,ys,rfl,.inl sq.sq,k _ _ H (.refl H) (rep_int.mpr (by rw[rr.length])) q⟩
 ·exact q.elim
end
end TL
end
section
namespace TL
open PySem PySem.Spec PyProof.Rows L2
section
variable {X:Cx} {a b c e:Expr} {es:List Expr} {wa wb wc w:WE} {ws:WA} {pos:Pos}
def rAbsT(ts:List T)(Q:T->Prop):Prop:=match ts with
 | [.int i]=>Q (.int (if i < 0 then -i else i))
 | _=>False
theorem bl_abs:BlR X (.builtin "abs") rAbsT:=by
 refine⟨_,call_abs,fun ts vs H Q0 Q r q k=>?_⟩
 unfold rAbsT at q
 split at q
 ·obtain⟨v,rfl,r1⟩:=reps1 r
  rename_i i
  exact⟨i,by rw[rep_int.mp r1],k _ _ H (.refl H) (rep_int.mpr rfl) q⟩
 ·exact q.elim
def rMaxT(ts:List T)(Q:T->Prop):Prop:=match ts with
 | [.int i,.int j]=>Q (.int (if j > i then j else i))
 | _=>False
def rMinT(ts:List T)(Q:T->Prop):Prop:=match ts with
 | [.int i,.int j]=>Q (.int (if j < i then j else i))
 | _=>False
theorem bl_max(hc:X.calm=true):BlR X (.builtin "max") rMaxT:=by
 refine⟨_,call_max2 hc,fun ts vs H Q0 Q r q k=>?_⟩
 unfold rMaxT at q
 split at q
 ·obtain⟨v,v',rfl,r1,r2⟩:=reps2 r
  rename_i i j
  exact⟨i,j,by rw[rep_int.mp r1,rep_int.mp r2],k _ _ H (.refl H) (rep_int.mpr rfl) q⟩
 ·exact q.elim
theorem bl_min(hc:X.calm=true):BlR X (.builtin "min") rMinT:=by
 refine⟨_,call_min2 hc,fun ts vs H Q0 Q r q k=>?_⟩
 unfold rMinT at q
 split at q
 ·obtain⟨v,v',rfl,r1,r2⟩:=reps2 r
  rename_i i j
  exact⟨i,j,by rw[rep_int.mp r1,rep_int.mp r2],k _ _ H (.refl H) (rep_int.mpr rfl) q⟩
 ·exact q.elim
def rTupleT(ts:List T)(Q:T->Prop):Prop:=match ts with
 | [.tup xs]=>Q (.tup xs)
 | [.lst xs]=>Q (.tup xs)
 | _=>False
theorem ty_tuple:BlR X (.type "tuple") rTupleT:=by
 refine⟨_,call_tuple_of,fun ts vs H Q0 Q r q k=>?_⟩
 unfold rTupleT at q
 split at q
 ·obtain⟨v,rfl,r1⟩:=reps1 r
  have r':=r1
  rw[rep_tup]at r1
  obtain⟨p,ys,rfl,sq,rr⟩:=r1
  exact⟨p,ys,rfl,.inr ⟨sq,k _ _ H (.refl H) r' q⟩⟩
 ·obtain⟨v,rfl,r1⟩:=reps1 r
  rw[rep_lst]at r1
  obtain⟨p,ys,rfl,sq,rr⟩:=r1
  exact⟨p,ys,rfl,.inl ⟨sq.sq,fun l hl=>k _ _ _ (same_new hl _) (rep_tup.mpr ⟨l,ys,rfl,SqT.of upd_same,rr.kp (.of (same_new hl _))⟩) q⟩⟩
 ·exact q.elim
inductive Kd where
 | int|bool|tuple|list|str
def Kd.nm:Kd->String
 | .int => "int"
 | .bool => "bool"
 | .tuple => "tuple"
 | .list => "list"
 | .str => "str"
def isK:Kd->T->Bool
 | .int,.int _=>true
 | .int,.bl _=>true
 | .bool,.bl _=>true
 | .tuple,.tup _=>true
 | .list,.lst _=>true
 | .str,.str _=>true
 | _,_=>false
def noExc:T->Prop
 | .exc _=>False
 | .exf _ _ _=>False
 | .dic _ _=>False
 | _=>True
theorem call_isi(kd:Kd):CallR X (.builtin "isinstance") (fun xs H Q=>∃x t,xs=[x,.ty kd.nm]/\Rep X.K H t x/\noExc t/\Q (.bl (isK kd t)) H):=by
 intro pins s σ H xs us Q I r h
 obtain⟨x,t,rfl,rt,ne,q⟩:=h
 obtain⟨u,u',rfl,rx,r2⟩:=vals2 r
 obtain rfl:u'=Value.type kd.nm:=r2
 have fin:∀tk,EP X pins σ Q (.bool (isK kd t)) {s with toks:=tk}:=fun tk=>⟨.bl _,H,I.tok tk,rfl,q⟩
 cases t with
 | non=>rw[rep_non]at rt;subst rt;cases rx;exact PySem.W.kia_one PySem.W.kitx_none I.kIn True.intro (by cases kd<;>kernel_rfl) (fun z=>nomatch z) fin
 | bl y=>rw[rep_bl]at rt;subst rt;cases rx;exact PySem.W.kia_one PySem.W.kitx_bool I.kIn True.intro (by cases kd<;>kernel_rfl) (fun z=>nomatch z) fin
 | int i=>rw[rep_int]at rt;subst rt;obtain⟨t,rfl⟩:=rx;exact PySem.W.kia_one PySem.W.kitx_int I.kIn True.intro (by cases kd<;>kernel_rfl) (fun z=>nomatch z) fin
 | str y=>rw[rep_str]at rt;subst rt;obtain⟨t,rfl⟩:=rx;exact PySem.W.kia_one PySem.W.kitx_str I.kIn True.intro (by cases kd<;>kernel_rfl) (fun z=>nomatch z) fin
 | tup ts =>
  rw[rep_tup]at rt
  obtain⟨p,vs,rfl,sq,_⟩:=rt
  cases rx
  obtain⟨its,_,⟨o,h1,h2,_⟩,_⟩:=I.tuple sq
  exact PySem.W.kia_one PySem.W.kitx_tuple I.kIn ⟨o,h1,h2⟩ (by cases kd<;>kernel_rfl) (fun z=>nomatch z) fin
 | lst ts =>
  rw[rep_lst]at rt
  obtain⟨p,vs,rfl,sq,_⟩:=rt
  cases rx
  obtain⟨its,_,pl,_⟩:=I.list sq.sq
  obtain⟨o,h1,h2,_⟩:=pl.isList
  exact PySem.W.kia_one PySem.W.kitx_list I.kIn ⟨o,h1,h2⟩ (by cases kd<;>kernel_rfl) (fun z=>nomatch z) fin
 | dct =>
  rw[rep_dct]at rt
  obtain⟨p,rfl,hp⟩:=rt
  cases rx
  exact PySem.W.kia_one PySem.W.kitx_dict I.kIn ⟨_,(I.hok p _ hp).1,rfl⟩ (by cases kd<;>kernel_rfl) (fun z=>nomatch z) fin
 | exc c=>exact ne.elim
 | exf c f t=>exact ne.elim
 | dic ks ts=>exact ne.elim
def wIsi(kd:Kd)(wa:WE):WE:=fun τ Q=>wa τ fun t=>noExc t/\Q (.bl (isK kd t))
theorem jisi(kd:Kd){p pc:Pos}{x:Str}(ha:JE X e wa) (hg:Gl X "isinstance") (hm:X.mg "isinstance" = none) (hgc:Gl X x) (hmc:X.mg x=none) (hvc:bootBuiltins x=some (.type kd.nm))
  (hn:x ≠ "__name__" := by decide) (hd:(x==("__debug__" : Str))=false:=by decide)
  (hs:starEach [e,.Name x pc] X.env=(false,eval e X.env)::starEach [.Name x pc] X.env:=by exact star1 rfl) (hs1:starEach [.Name x pc] X.env=(false,eval (.Name x pc) X.env)::starEach [] X.env:=by rfl)
  (hpl:(backTo pos (starEach [.Name x pc] X.env)).any (·.1)=false:=by exact stars rfl):JE X (.Call (.Name "isinstance" p) [e,.Name x pc] [] pos) (wIsi kd wa):=by
 refine pe_of (pe_callB (call_isi kd) hg hm boot_isinstance (pa_cons ha (pa_cons (pe_bltn (v:=.ty kd.nm) hgc hmc hvc rfl hn hd) pa_nil hs1) hs) (by decide) (by decide) hs hpl) fun σ H Q ⟨τ,Q0,R,hw,k⟩=>?_
 exact⟨τ,_,R,hw,fun t v H1 S1 r1 q1=>⟨v,t,rfl,r1,q1.1,k _ _ H1 S1 (rep_bl.mpr rfl) q1.2⟩⟩
abbrev SpT:=List T->(T->Prop)->Prop
def spT(K:PySem.W.Frag)(n:Nat)(S:SpT):Sp:=fun vs H Q _=>∃(ts:List T) (Q0:T->Prop),vs.length=n/\Reps K H ts vs/\S ts Q0/\∀t v H',Same H H'->Rep K H' t v->Q0 t->Q v H'
structure FnT(P:Program)(w:World)(K:PySem.W.Frag)(mg:Str->Option Value)(base:Heap)(k:Nat)(f:Addr)(fd:FuncData)(ps:List Str)(S:SpT):Prop where
 ok:FnOk P w K mg base CX0 k f fd ps (spT K ps.length S)
 len:∀ts Q,S ts Q->ts.length=ps.length
def wCall(S:SpT)(ws:WA):WE:=fun τ Q=>ws τ fun ts=>S ts Q
theorem jcall{k:Nat}{f:Addr}{fd:FuncData}{ps:List Str}{S:SpT}{x:Str}{p:Pos}(F:FnT X.prog X.w X.K X.mg X.base k f fd ps S)(hr:Room k X.A)(hg:Gl X x)(hm:X.mg x=some (.ref f))(hk:PySem.W.keepIn X.K (.ref f)=true)
  (hb:Binds X.K fd ps []) (ha:JA X (e::es) ws) (hdb:(x==("__debug__" : Str))=false:=by decide) (he:starEach (e::es) X.env=(false,eval e X.env)::starEach es X.env:=by exact star1 rfl)
  (hpl:(backTo pos (starEach es X.env)).any (·.1)=false:=by exact stars rfl):JE X (.Call (.Name x p) (e::es) [] pos) (wCall S ws):=by
 refine pe_of (pe_call F.ok hr hg hm hk hb .nil pass0 ha hdb he hpl) fun σ H Q ⟨τ,Q0,R,hw,k⟩=>?_
 refine⟨τ,_,R,hw,fun ts vs H1 S1 r1 q1=>?_⟩
 have e0:vs++[]=vs:=List.append_nil vs
 show spT X.K ps.length S (vs++[]) H1 Q E0
 rw[e0]
 exact⟨ts,Q0,by rw[r1.length];exact F.len _ _ q1,r1,q1,fun t v H' S2 r q=>k t v H' (S1.trans S2) r q⟩
def startT(n:Nat)(ts:List T):List Slot:=ts.map Slot.val++List.replicate (n - ts.length) Slot.no
theorem sget_append_left:∀{l r:List Slot}{i:Nat},i < l.length->sget (l++r) i=sget l i
 | [],_,_,h=>by simp at h
 | _::_,_,0,_=>rfl
 | _::l,r,i + 1,h=>by simp only[List.cons_append,sget];exact sget_append_left (by simpa using h)
theorem sget_append_right:∀{l r:List Slot}{i:Nat},l.length<=i->sget (l++r) i=sget r (i - l.length)
 | [],_,_,_=>by simp
 | _::_,_,0,h=>by simp at h
 | _::l,r,i + 1,h=>by
  simp only[List.cons_append,sget,List.length_cons]
  rw[sget_append_right (by simpa using h)]
  congr 1
  omega
theorem sget_no:∀(n i:Nat),sget (List.replicate n Slot.no) i=.no
 | 0,_=>rfl
 | _ + 1,0=>rfl
 | n + 1,i + 1=>by simp only[List.replicate,sget];exact sget_no n i
theorem sget_vals:∀{ts:List T}{i:Nat},i < ts.length->∃t,ts[i]?=some t/\sget (ts.map Slot.val) i=.val t
 | [],_,h=>by simp at h
 | t::_,0,_=>⟨t,rfl,rfl⟩
 | _::r,i + 1,h=>by
  obtain⟨t,h1,h2⟩:=sget_vals (ts:=r) (i:=i) (by simpa using h)
  exact⟨t,by simpa using h1,by simpa [sget] using h2⟩
theorem repSt_start{K:PySem.W.Frag}{H:Hp}{N:List Str}{ts:List T}{vs:List V}(r:Reps K H ts vs):RepSt K H H (L2.start N vs) (startT N.length ts):=by
 have hl:=r.length
 have noOwn:∀i us,sget (startT N.length ts) i ≠ .own us:=fun i us e=>by
  unfold startT at e
  by_cases hi:i < ts.length
  ·rw[sget_append_left (by simpa using hi)]at e
   obtain⟨t,_,h2⟩:=sget_vals hi
   rw[h2]at e
   cases e
  ·rw[sget_append_right (by simpa using hi),sget_no]at e
   cases e
 refine⟨.refl H,by unfold L2.start startT;simp[hl],fun i=>?_,fun i j ts' us p _ h1 _ _ _=>absurd h1 (noOwn i _)⟩
 unfold startT
 by_cases hi:i < ts.length
 ·rw[sget_append_left (by simpa using hi)]
  obtain⟨t,h1,h2⟩:=sget_vals hi
  rw[h2]
  obtain⟨v,e,rv⟩:=r.get h1
  refine⟨v,?_,rv⟩
  unfold L2.start
  rw[List.getElem?_append_left (by simp[hl,hi]),List.getElem?_map,e]
  rfl
 ·rw[sget_append_right (by simpa using hi),sget_no]
  trivial
theorem fnT{P:Program}{w:World}{K:PySem.W.Frag}{mg:Str->Option Value}{base:Heap}{x qual:Str}{st:Stmt}{f:Addr}{fd:FuncData}{N ps:List Str}{k:Nat}{S:SpT}{W:WS}(F:Fun K x qual st f fd)(SC:FnScope N ps (defScope st))
  (hlen:∀ts Q,S ts Q->ts.length=ps.length)
  (hbody:∀(cdv:Value)(A:Around)(outer:List Env)(s:Shared)(H:Hp)(E:XK),Room k (A.deeper (envOfC qual (defScope st) s.heap.objs.size f cdv))->JSs (cxOf CX0 P w K mg base N qual (defScope st) f cdv A outer s H E).nox (defBody st) W)
  (hw:∀ts Q,S ts Q->W {nx:=fun _=>Q .non,rt:=Q} (startT N.length ts)):FnT P w K mg base (k + 1) f fd ps S:=by
 refine⟨F.ok SC (fun vs H Q E h=>?_) (fun cdv A outer s H vs Q E hr h=>?_),hlen⟩
 ·obtain⟨_,_,e,_⟩:=h
  exact e
 obtain⟨ts,Q0,e,r,hS,q⟩:=h
 refine⟨_,hbody cdv A outer s H E hr,startT N.length ts,{nx:=fun _=>Q0 .non,rt:=Q0},repSt_start r,hw ts Q0 hS,fun τ' σ' H' _ R n=>?_,fun t v H' S r' n=>q t v H' S r' n,fun τ' σ' H' _ R n=>n.elim,fun τ' σ' H' _ R n=>n.elim⟩
 exact q .non .non H' R.same (rep_non.mpr rfl) n
variable {st:Stmt} {rest:List Stmt} {t u:WS} {ua:WT}
def sNext:WS:=fun D τ=>D.nx τ
def sSeq(t u:WS):WS:=fun D τ=>t {D with nx:=u D} τ
theorem js0:JSs X [] sNext:=pss_of pss_nil fun D σ H ⟨τ,D0,R,hw,k,_⟩=>k τ σ H (.refl H) R hw
theorem js1(h:JS X st t):JSs X [st] t:=pss_of (pss_one h) fun D σ H z=>z
theorem jsc(h1:JS X st t)(h2:JSs X rest u):JSs X (st::rest) (sSeq t u):=pss_of (pss_cons h1 h2) fun D σ H ⟨τ,D0,R,hw,kn,kr,kb,kc⟩ =>
 ⟨τ,_,R,hw,fun τ' σ' H' K1 R' q=>⟨τ',D0,R',q,fun τ2 σ2 H2 K2 R2 q2=>kn τ2 σ2 H2 (K1.trans K2) R2 q2,kr,fun τ2 σ2 H2 K2 R2 q2=>kb τ2 σ2 H2 (K1.trans K2) R2 q2,fun τ2 σ2 H2 K2 R2 q2=>kc τ2 σ2 H2 (K1.trans K2) R2 q2⟩,
  kr,kb,kc⟩
def sRet(w:WE):WS:=fun D τ=>w τ D.rt
theorem jret(h:JE X e w):JS X (.Return (some e) pos) (sRet w):=ps_of (ps_ret h) fun D σ H ⟨τ,D0,R,hw,_,k,_⟩=>⟨τ,_,R,hw,fun t v H' S r q=>k t v H' (R.same.trans S) r q⟩
def sRetN:WS:=fun D _=>D.rt .non
def sIf(ua:WT)(t u:WS):WS:=fun D τ=>ua τ fun k=>(k=true->t D τ)/\(k=false->u D τ)
theorem jsif{c:Expr}{a b:List Stmt}(hc:JT X c ua)(ha:JSs X a t)(hb:JSs X b u):JS X (.If c a b pos) (sIf ua t u):=ps_of (ps_if hc ha hb) fun D σ H ⟨τ,D0,R,hw,kn,kr,kb,kc⟩=>by
 refine⟨τ,_,R,hw,fun d H1 S1 q=>?_⟩
 have K1:=Kp.of S1
 cases d with
 | true=>dsimp only;rw[if_pos rfl];exact⟨τ,D0,R.mono S1,q.1 rfl,fun τ2 σ2 H2 K2 R2 q2=>kn τ2 σ2 H2 (K1.trans K2) R2 q2,kr,fun τ2 σ2 H2 K2 R2 q2=>kb τ2 σ2 H2 (K1.trans K2) R2 q2,fun τ2 σ2 H2 K2 R2 q2=>kc τ2 σ2 H2 (K1.trans K2) R2 q2⟩
 | false=>dsimp only;rw[if_neg Bool.false_ne_true];exact⟨τ,D0,R.mono S1,q.2 rfl,fun τ2 σ2 H2 K2 R2 q2=>kn τ2 σ2 H2 (K1.trans K2) R2 q2,kr,fun τ2 σ2 H2 K2 R2 q2=>kb τ2 σ2 H2 (K1.trans K2) R2 q2,fun τ2 σ2 H2 K2 R2 q2=>kc τ2 σ2 H2 (K1.trans K2) R2 q2⟩
def sExpr(w:WE):WS:=fun D τ=>w τ fun _=>D.nx τ
def sSet(i:Nat)(w:WE):WS:=fun D τ=>w τ fun t=>D.nx (sput τ i (.val t))
theorem jset{i:Nat}{x:Str}{pos':Pos}(hN:X.N.Nodup)(hi:X.N[i]?=some x)(hx:Loc X.env.scope x)(he:JE X e w)(hs:swapsWith e (some (.Name x pos')) pos.line X.env=pure false:=by rfl)
  (hf:X.fn x=true∨X.env.scope.names.lookup x=some .local:=by first|exact .inl rfl|exact .inr rfl|assumption):JS X (.Assign [.Name x pos'] e pos) (sSet i w) :=
 ps_of (ps_set hN hi hx he hs hf) fun D σ H ⟨τ,D0,R,hw,k,_⟩=>⟨τ,_,R,hw,fun t v H' S r q=>k _ _ H' (.of S) ((R.mono S).put r) q⟩
def sOwn(i:Nat)(ws:WA):WS:=fun D τ=>ws τ fun ts=>ts.length<=1000/\D.nx (sput τ i (.own ts))
theorem jown{i:Nat}{x:Str}{pos' pl:Pos}(hN:X.N.Nodup)(hi:X.N[i]?=some x)(hx:Loc X.env.scope x)(he:JA X es ws)(hs:swapsWith (.List es pl) (some (.Name x pos')) pos.line X.env=pure false:=by rfl)
  (hf:X.fn x=true∨X.env.scope.names.lookup x=some .local:=by first|exact .inl rfl|exact .inr rfl|assumption):JS X (.Assign [.Name x pos'] (.List es pl) pos) (sOwn i ws) :=
 ps_of (ps_set hN hi hx (pe_lst he) hs hf) fun D σ H ⟨τ,D0,R,hw,k,_⟩=>⟨τ,_,R,hw,fun ts vs H' S r ⟨hl,q⟩ =>
  ⟨by rw[r.length];exact few hl,fun p hp=>k _ _ _ ((Kp.of S).trans (.of (same_new hp _))) ((R.mono S).putOwn hp r) q⟩⟩
def sApp(i:Nat)(w:WE):WS:=fun D τ=>match sget τ i with
 | .own ts=>w τ fun t=>ts.length < 1000/\D.nx (sput τ i (.own (ts++[t])))
 | _=>False
theorem japp{i:Nat}{x:Str}{px apos cpos:Pos}(hv:PE X (.Name x px) (tVar i))(he:JE X e w)
  (hs:swapsWith (.Call (.Attribute (.Name x px) "append" apos) [e] [] cpos) none pos.line X.env=pure false:=by rfl)
  (hbase:attributeBase (.Name x px) "append" X.env (eval (.Name x px) X.env)=eval (.Name x px) X.env:=by rfl)
  (hfew:((backTo cpos (starEach [e] X.env)).all (fun x=>!x.1)&&(backToKw cpos (keywordEach [] X.env)).all (fun x=>x.1.isSome)
   && decide ([e].length + ([]:List Keyword).length + (if ([]:List Keyword).isEmpty then 0 else 1) < 30))=true:=by rfl)
  (hline:(apos.endLine==cpos.line)=true:=by rfl) (hst:starEach [e] X.env=(false,eval e X.env)::starEach [] X.env:=by rfl) (hplain:(backTo cpos (starEach [] X.env)).any (·.1)=false:=by rfl) :
  JS X (.Expr (.Call (.Attribute (.Name x px) "append" apos) [e] [] cpos) pos) (sApp i w):=by
 refine ps_of (ps_expr (pe_bm PySem.F.plainAttrs_list PySem.F.slot_list_append PySem.F.type_list_append mt_append hv (pa_cons he pa_nil hst) hbase hfew hline hst hplain) hs) fun D σ H ⟨τ,D0,R,hw,k,_⟩=>?_
 unfold sApp at hw
 cases own:sget τ i with
 | no=>rw[own]at hw;exact hw.elim
 | val t=>rw[own]at hw;exact hw.elim
 | see t=>rw[own]at hw;exact hw.elim
 | dic t=>rw[own]at hw;exact hw.elim
 | vat t v=>rw[own]at hw;exact hw.elim
 | owd p q=>rw[own]at hw;exact hw.elim
 | own ts =>
  rw[own]at hw
  have sl:=R.slot i
  rw[own]at sl
  obtain⟨p,vs,ev,hp,rr,n0⟩:=sl
  refine⟨.ref p,ev,.inl ⟨rfl,vs,SqL.of hp⟩,τ,_,R,hw,fun t v H' S r q=>?_⟩
  refine⟨p,vs,v,rfl,rfl,S _ _ hp,by rw[rr.length];exact small1000 (Nat.le_of_lt q.1),?_⟩
  exact k _ _ _ ((Kp.of S).trans (Kp.write (S _ _ hp) _)) ((R.mono S).write own ev (S _ _ hp) ((rr.kp (.of S)).append (.one r))) q.2
def sFrz(i:Nat)(t:WS):WS:=fun D τ=>match sget τ i with
 | .own ts=>t D (sput τ i (.val (.lst ts)))
 | _=>False
theorem Inv.freeze{pins:List (Addr×Obj)}{σ:St}{H:Hp}{s:Shared}{p:Addr}{xs:List V}(I:Inv X pins σ H s)(h:H p=some (.lst xs)):∃o,Inv X pins σ (upd H p (.frz o (.lst xs))) s:=by
 obtain⟨z,its,n,r,e⟩:=I.hok p _ h
 refine⟨{cls:=.type "list", data:=.seq its.toArray n},?_⟩
 have ne:∀{b:Addr}{o:HO},H b=some o->o ≠ .lst xs->b≠p:=fun q d z=>by subst z;rw[h]at q;cases q;exact d rfl
 have nn:∀{b:Addr},H b=none->b≠p:=fun q z=>by subst z;rw[h]at q;cases q
 have u:Un X.fs [] H (upd H p (.frz {cls:=.type "list", data:=.seq its.toArray n} (.lst xs))) s.heap s.heap:=by
  refine⟨fun b o q _ _ _=>q,fun b o q _ _ _=>⟨o.slots,q⟩,fun b o _ q _=>by rw[upd_ne (nn q)];exact q,fun b o q _=>⟨o,q⟩,fun b ys q=>?_,fun b o' u' q=>?_,fun b ps q=>⟨#[],?_⟩⟩
  ·rw[upd_ne (by rintro rfl;rw[h]at q;cases q)];exact q
  ·rw[upd_ne (by rintro rfl;rw[h]at q;cases q)];exact q
  ·rw[upd_ne (by rintro rfl;rw[h]at q;cases q),q];simp
 have hok:HOk X.prog X.w (upd H p (.frz {cls:=.type "list", data:=.seq its.toArray n} (.lst xs))) s.heap:=fun b ob q=>by
  by_cases hb:b=p
  ·subst hb
   rw[upd_same]at q
   cases q
   exact⟨e,z,its,n,r,e⟩
  ·rw[upd_ne hb]at q
   refine(I.hok b ob q).stay (fun c v _ q=>q) (fun c q=>?_) fun c ys q=>?_
   ·rw[upd_ne (by rintro rfl;rw[h]at q;cases q)];exact q
   ·rw[upd_ne (by rintro rfl;rw[h]at q;cases q)];exact q
 have:=I.un (h':=s.heap) (t':=s.toks) u hok
 exact this
theorem jfrz(i:Nat){sts:List Stmt}(h:JSs X sts t):JSs X sts (sFrz i t):=by
 intro pins s σ H D I hw
 obtain⟨τ,D0,R,hw,kn,kr,kb,kc⟩:=hw
 unfold sFrz at hw
 cases own:sget τ i with
 | no=>rw[own]at hw;exact hw.elim
 | val t=>rw[own]at hw;exact hw.elim
 | see t=>rw[own]at hw;exact hw.elim
 | dic t=>rw[own]at hw;exact hw.elim
 | vat t v=>rw[own]at hw;exact hw.elim
 | owd p q=>rw[own]at hw;exact hw.elim
 | own ts =>
  rw[own]at hw
  have sl:=R.slot i
  rw[own]at sl
  obtain⟨p,vs,ev,hp,rr,n0⟩:=sl
  obtain⟨o,I'⟩:=Inv.freeze I hp
  have K1:=Kp.write hp (.frz o (.lst vs))
  exact h pins s σ _ D I' ⟨_,D0,R.freeze own ev hp rr,hw,fun τ2 σ2 H2 K2 R2 q2=>kn τ2 σ2 H2 (K1.trans K2) R2 q2,kr,fun τ2 σ2 H2 K2 R2 q2=>kb τ2 σ2 H2 (K1.trans K2) R2 q2,fun τ2 σ2 H2 K2 R2 q2=>kc τ2 σ2 H2 (K1.trans K2) R2 q2⟩
abbrev TGt:=T->List Slot->(List Slot->Prop)->Prop
abbrev TGts:=List T->List Slot->(List Slot->Prop)->Prop
def upG(K:PySem.W.Frag)(H0:Hp)(g:TGt):TG:=fun v σ H Q=>∃(t:T) (τ:List Slot) (Q0:List Slot->Prop),RepSt K H0 H σ τ/\Rep K H t v/\g t τ Q0/\∀τ' σ' H',Same H H'->RepSt K H0 H' σ' τ'->Q0 τ'->Q σ' H'
def upGs(K:PySem.W.Frag)(H0:Hp)(g:TGts):TGs:=fun vs σ H Q=>∃(ts:List T) (τ:List Slot) (Q0:List Slot->Prop),RepSt K H0 H σ τ/\Reps K H ts vs/\g ts τ Q0/\∀τ' σ' H',Same H H'->RepSt K H0 H' σ' τ'->Q0 τ'->Q σ' H'
def JG(X:Cx)(tg:Expr)(g:TGt):Prop:=PG X tg (upG X.K X.H₀ g)
def JGs(X:Cx)(tgs:List Expr)(g:TGts):Prop:=PGs X tgs (upGs X.K X.H₀ g)
theorem pg_of{tg:Expr}{t t':TG}(h:PG X tg t)(f:∀v σ H Q,t' v σ H Q->t v σ H Q):PG X tg t':=fun pins s σ H v u Q I r hw=>h pins s σ H v u Q I r (f v σ H Q hw)
theorem pgs_of{tg:List Expr}{t t':TGs}(h:PGs X tg t)(f:∀v σ H Q,t' v σ H Q->t v σ H Q):PGs X tg t':=fun pins s σ H v u Q I r hw=>h pins s σ H v u Q I r (f v σ H Q hw)
def gN(i:Nat):TGt:=fun t τ Q=>Q (sput τ i (.val t))
theorem jg{i:Nat}{x:Str}(hN:X.N.Nodup)(hi:X.N[i]?=some x)(hx:Loc X.env.scope x)(hf:X.fn x=true∨X.env.scope.names.lookup x=some .local:=by first|exact .inl rfl|exact .inr rfl|assumption):JG X (.Name x pos) (gN i) :=
 pg_of (pg_name hN hi hx hf) fun v σ H Q ⟨t,τ,Q0,R,r,hw,k⟩=>k _ _ H (.refl H) (R.put r) hw
def gs0:TGts:=fun ts τ Q=>match ts with|[]=>Q τ|_=>False
def gsC(g:TGt)(gs:TGts):TGts:=fun ts τ Q=>match ts with|t::r=>g t τ fun τ'=>gs r τ' Q|[]=>False
theorem jgs0:JGs X [] gs0:=pgs_of pgs_nil fun vs σ H Q ⟨ts,τ,Q0,R,r,hw,k⟩=>by
 cases ts with
 | nil=>exact⟨reps_nil.mp r,k τ σ H (.refl H) R hw⟩
 | cons t r=>exact hw.elim
theorem jgsc{e:Expr}{es:List Expr}{g:TGt}{gs:TGts}(h1:JG X e g)(h2:JGs X es gs)(hs:(assignEach (e::es) X.env).map (·.2)=assign e X.env::(assignEach es X.env).map (·.2):=by rfl):JGs X (e::es) (gsC g gs) :=
 pgs_of (pgs_cons h1 h2 hs) fun vs σ H Q ⟨ts,τ,Q0,R,r,hw,k⟩=>by
  cases ts with
  | nil=>exact hw.elim
  | cons t ts =>
   rw[reps_cons]at r
   obtain⟨v,vr,e1,r1,r2⟩:=r
   exact⟨v,vr,e1,t,τ,_,R,r1,hw,fun τ1 σ1 H1 S1 R1 q1=>⟨ts,τ1,Q0,R1,r2.kp (.of S1),q1,fun τ2 σ2 H2 S2 R2 q2=>k τ2 σ2 H2 (S1.trans S2) R2 q2⟩⟩
theorem draw_list{prog:Program}{w:World}{A:Around}{E:Value->Shared->Prop}{it l:Addr}{items:Array Value}(hne:l≠it):∀(n i:Nat)(s:Shared)(Q:List Value->Shared->Prop),s.heap.IsListIter it l i->s.heap.IsList l items->i + n<=items.size →
  (∀h',h'.IsListIter it l (i + n)->Heap.SameBut it s.heap h'->Q ((items.toList.drop i).take n) {s with heap:=h' })->wpAny (model prog w) A (draw (.ref it) n) Q E s
 | 0,i,s,Q,hit,_,_,hQ=>by
  show wpAny _ _ (pure []) Q E s
  exact wpAny_pure (by simpa using hQ s.heap hit (Heap.SameBut.refl ..))
 | n + 1,i,s,Q,hit,ht,hle,hQ=>by
  have hlt:i < items.size:=by omega
  show wpAny _ _ (pyNext (.ref it) >>= _) Q E s
  refine wpAny_bind (wpAny_pyNext_list_item hit ht (x:=items[i]) (by simp[hlt]) fun h₁ hit₁ hs₁=>?_)
  refine wpAny_bind (wpAny_holding (draw_list hne n (i + 1) _ _ hit₁ (ht.extBut hs₁.extBut hne) (by omega) fun h₂ hit₂ hs₂=>wpAny_pure ?_))
  have hd:items.toList.drop i=items[i]::items.toList.drop (i + 1):=by simp[List.drop_eq_getElem_cons,hlt]
  have:=hQ h₂ (by rw[show i + (n + 1)=i + 1 + n by omega];exact hit₂) (hs₁.trans hs₂)
  rw[hd,List.take_succ_cons]at this
  exact this
theorem unpackItems_list{prog:Program}{w:World}{A:Around}{E:Value->Shared->Prop}{s:Shared}{t:Addr}{items:Array Value}{Q:List Value->Shared->Prop}(hh:A.handled=none)(ht:s.heap.IsList t items)
  (hQ:∀h',Heap.ExtBut s.heap.objs.size s.heap h'->Q items.toList {s with heap:=h' }):wpAny (model prog w) A (unpackItems (.ref t) items.size none) Q E s:=by
 have hlt:t≠s.heap.objs.size:=by obtain⟨o,ho,_⟩:=ht;exact Nat.ne_of_lt (Heap.lt_size ho)
 unfold unpackItems
 refine wpAny_bind ?_
 ·unfold notIterableAtAll
  refine wpAny_bind (wpAny_specialOf ht.typeIs slot_list_iter.lookup ?_)
  refine wpAny_pure ?_
  simp only[Bool.false_eq_true,if_false]
  refine wpAny_bind (wpAny_holding (wpAny_pyIter_list ht ?_))
  have htp:(s.heap.push {cls:=.type "list_iterator", data:=.fields #[.ref t,.int 0 0]}).IsList t items:=by
   obtain⟨o,ho,r⟩:=ht
   exact⟨o,Heap.get?_push_of_some _ ho,r⟩
  refine wpAny_bind (wpAny_holding (draw_list hlt items.size 0 _ _ ⟨_,Heap.get?_push_size _ rfl,rfl,rfl⟩ htp (by omega) fun h₁ hit₁ hs₁=>?_))
  have hall:List.take items.size (List.drop 0 items.toList)=items.toList:=by
   rw[List.drop_zero];exact List.take_of_length_le (by simp)
  rw[hall]
  rw[if_neg (by simp)]
  have ht₁:h₁.IsList t items:=htp.extBut hs₁.extBut hlt
  refine wpAny_bind (wpAny_holding (wpAny_pyNext_list_end hh hit₁ ht₁ (by simp) fun h₂ he₂=>?_))
  simp only[Option.isSome_none,Bool.false_eq_true,if_false]
  refine wpAny_pure (hQ h₂ fun b o hb e=>he₂ b o hb (hs₁.extBut b o hb (Heap.get?_push_of_some _ e)))
theorem assign_Tuple_list{prog:Program}{w:World}{A:Around}{E:Value->Shared->Prop}{s:Shared}{env:Env}{elts:List Expr}{x1}{pos:Pos}{t:Addr}{items:Array Value}{Q:Unit->Shared->Prop}(hh:A.handled=none)(ht:s.heap.IsList t items)
  (hn:(assignEach elts env).length=items.size) (hstar:(assignEach elts env).findIdx? (·.1)=none)
  (h:∀h',Heap.ExtBut s.heap.objs.size s.heap h'->wpAny (model prog w) A (assignInOrder ((assignEach elts env).map (·.2)) items.toList) Q E {s with heap:=h' }) :
  wpAny (model prog w) A (assign (.Tuple elts x1 pos) env (.ref t)) Q E s:=by
 rw[assign_Tuple]
 refine wpAny_bind (wpAny_standAt ?_)
 unfold unpack
 rw[hn,hstar]
 exact wpAny_bind (wpAny_holding (unpackItems_list hh ht h))
def gT(n:Nat)(gs:TGts):TGt:=fun t τ Q=>match t with
 | .tup ts=>ts.length=n/\gs ts τ Q
 | .lst ts=>ts.length=n/\gs ts τ Q
 | _=>False
theorem jgt{es:List Expr}{k:Nat}{gs:TGts}{n:Nat}(hc:X.calm=true)(h:JGs X es gs)(hn:(assignEach es X.env).length=n:=by rfl)(hst:(assignEach es X.env).findIdx? (·.1)=none:=by rfl):JG X (.Tuple es k pos) (gT n gs):=by
 intro pins s σ H v u Q I r hw
 obtain⟨t,τ,Q0,R,rt,hw,kk⟩:=hw
 cases t<;>first|exact hw.elim|skip
 ·rename_i ts
  rw[rep_tup]at rt
  obtain⟨p,vs,rfl,sq,rr⟩:=rt
  cases r
  obtain⟨its,rv,ht,hz⟩:=I.tuple sq
  refine assign_Tuple_tuple (I.ok.hd hc) ht (by simp[hn,← hw.1,← rr.length,rv.length]) hst fun h' hx=>?_
  have I1:Inv X pins σ H {s with heap:=h' }:=I.kept (t':=s.toks) fun b o e=>hx b o (Nat.ne_of_lt (Heap.lt_size e)) e
  exact h pins _ σ H vs _ Q I1 (by simpa using rv) ⟨ts,τ,Q0,R,rr,hw.2,kk⟩
 ·rename_i ts
  rw[rep_lst]at rt
  obtain⟨p,vs,rfl,sq,rr⟩:=rt
  cases r
  obtain⟨its,rv,ht,hz⟩:=I.list sq.sq
  refine assign_Tuple_list (I.ok.hd hc) ht.isList (by simp[hn,← hw.1,← rr.length,rv.length]) hst fun h' hx=>?_
  have I1:Inv X pins σ H {s with heap:=h' }:=I.kept (t':=s.toks) fun b o e=>hx b o (Nat.ne_of_lt (Heap.lt_size e)) e
  exact h pins _ σ H vs _ Q I1 (by simpa using rv) ⟨ts,τ,Q0,R,rr,hw.2,kk⟩
def sAsg(g:TGt)(w:WE):WS:=fun D τ=>w τ fun t=>g t τ D.nx
theorem jasg{tg:Expr}{g:TGt}(hg:JG X tg g)(he:JE X e w)(hs:swapsWithSole [tg] e pos.line X.env=pure false:=by rfl)(hw:swappedStores [tg] e X.env=pure none:=by rfl)
  (h1:(assignEach [tg] X.env).map (·.2)=[assign tg X.env]:=by rfl):JS X (.Assign [tg] e pos) (sAsg g w) :=
 ps_of (ps_asg he hg hs hw h1) fun D σ H ⟨τ,D0,R,hw,k,_⟩=>⟨τ,_,R,hw,fun t v H' S r q=>⟨t,τ,_,R.mono S,r,q,fun τ' σ' H2 S2 R2 q2=>k τ' σ' H2 (.of (S.trans S2)) R2 q2⟩⟩
def sPar(i j:Nat)(ws:WA):WS:=fun D τ=>ws τ fun ts=>match ts with|[x,y]=>D.nx (sput (sput τ i (.val x)) j (.val y))|_=>False
abbrev WI:=List Slot->(List T->Prop)->Prop
def Wk(K:PySem.W.Frag)(J:It)(ts:List T)(H1:Hp):Prop:=∀H2,Kp H1 H2->(∀i t,ts[i]?=some t->J.go i H2/\∀x H3,J.yld i H2 x H3->Same H2 H3/\Rep K H3 t x)/\J.stop ts.length H2
def upI(K:PySem.W.Frag)(H0:Hp)(w:WI):TI:=fun σ H R=>∃(τ:List Slot) (Q0:List T->Prop),RepSt K H0 H σ τ/\w τ Q0/\∀ts J H',Same H H'->Wk K J ts H'->Q0 ts->R J H'
def JI(X:Cx)(tg iter:Expr)(w:WI):Prop:=PI X tg iter (upI X.K X.H₀ w)
theorem pi_of{tg iter:Expr}{t t':TI}(h:PI X tg iter t)(f:∀σ H R,t' σ H R->t σ H R):PI X tg iter t':=fun pins s σ H R I hw=>h pins s σ H R I (f σ H R hw)
def forT(g:TGt)(t:WS):List T->WS
 | [],D,τ=>D.nx τ
 | x::xs,D,τ=>g x τ fun τ1=>t {D with nx:=forT g t xs D,ct:=forT g t xs D,bk:=D.nx} τ1
def sFor(wi:WI)(g:TGt)(t:WS):WS:=fun D τ=>wi τ fun ts=>forT g t ts D τ
theorem jfor{tg iter:Expr}{body:List Stmt}{wi:WI}{g:TGt}(hp:PassesOwn (model X.prog X.w) X.A X.env X.xe)(hc:X.calm=true)(hi:JI X tg iter wi)(hg:JG X tg g)(hb:JSs X body t)
  (hs:∀x,foldedSetIterable iter X.env x=pure x:=by intro _;rfl):JS X (.For tg iter body [] pos) (sFor wi g t) :=
 ps_of (ps_for hp hc hi hg hb hs) fun D σ H ⟨τ,D0,R,hw,kn,kr,kb,kc⟩=>by
  refine⟨τ,_,R,hw,fun ts J H1 S1 wk q=>?_⟩
  have K0:=Kp.of S1
  refine⟨fun i m σ' H'=>m=ts.length - i/\i<=ts.length/\∃τ',RepSt X.K X.H₀ H' σ' τ'/\Kp H1 H'/\forT g t (ts.drop i) D0 τ',⟨ts.length,by simp,Nat.zero_le _,τ,R.mono S1,.refl H1,by simpa using q⟩,?_⟩
  rintro i m σ2 H2 ⟨rfl,hi,τ2,R2,K2,q2⟩
  obtain⟨wi,ws⟩:=wk H2 K2
  by_cases hlt:i < ts.length
  ·refine .inr ?_
   have ei:ts[i]?=some ts[i]:=List.getElem?_eq_getElem hlt
   obtain⟨go,yl⟩:=wi i _ ei
   rw[List.drop_eq_getElem_cons hlt]at q2
   refine⟨go,fun σ' H'=>∃τ',RepSt X.K X.H₀ H' σ' τ'/\Kp H1 H'/\forT g t (ts.drop (i + 1)) D0 τ',fun σ' H' ⟨τ',R',K',q'⟩=>⟨ts.length - (i + 1),by omega,rfl,hlt,τ',R',K',q'⟩,fun x H3 y=>?_⟩
   obtain⟨S3,r3⟩:=yl x H3 y
   refine⟨ts[i],τ2,_,R2.mono S3,r3,q2,fun τ4 σ4 H4 S4 R4 q4=>?_⟩
   have K4:=K2.trans (.of (S3.trans S4))
   have nx:∀τ' σ' H',Kp H4 H'->RepSt X.K X.H₀ H' σ' τ'->forT g t (ts.drop (i + 1)) D0 τ'->∃τ',RepSt X.K X.H₀ H' σ' τ'/\Kp H1 H'/\forT g t (ts.drop (i + 1)) D0 τ':=fun τ' σ' H' K5 R5 q5=>⟨τ',R5,K4.trans K5,q5⟩
   exact⟨τ4,_,R4,q4,nx,kr,fun τ' σ' H' K5 R5 q5=>kn τ' σ' H' (K0.trans (K4.trans K5)) R5 q5,nx⟩
  ·have e:i=ts.length:=by omega
   subst e
   rw[List.drop_length]at q2
   exact .inl ⟨ws,kn τ2 σ2 H2 (K0.trans K2) R2 q2⟩
def iSeq(w:WE):WI:=fun τ Q=>w τ fun t=>match t with
 | .tup ts=>Q ts
 | .lst ts=>Q ts
 | _=>False
theorem jiSeq{tg l:Expr}(h:JE X l w):JI X tg l (iSeq w):=by
 intro pins s σ H R I hw
 obtain⟨τ,Q0,Rs,hw,k⟩:=hw
 refine thn (h pins s σ H (fun v H1=>∃t,Same H H1/\Rep X.K H1 t v/\(match t with | .tup ts=>Q0 ts | .lst ts=>Q0 ts|_=>False)) I ⟨τ,_,Rs,hw,fun t v H1 S r q=>⟨t,S,r,q⟩⟩) fun v s1 ⟨x,H1,I1,r1,t,S1,rt,q1⟩=>?_
 cases t<;>first|exact q1.elim|skip
 ·rename_i ts
  rw[rep_tup]at rt
  obtain⟨a,vs,rfl,hq,rr⟩:=rt
  cases r1
  obtain⟨its,rv,p,hz⟩:=I1.tuple hq
  refine wpAny_pyIter_tuple (show s1.heap.IsTuple a its.toArray from p) ?_
  refine⟨s1.heap.objs.size,[s1.heap.objs.size],_,_,H1,rfl,I1.kept (t':=s1.toks) fun b o e=>Heap.get?_push_of_some _ e,turn_tuple a _,⟨_,Heap.get?_push_size _ rfl,rfl,rfl⟩,fun b hb=>?_,k ts (Itt X.K a) H1 S1 ?_ q1⟩
  ·have e:b=s1.heap.objs.size:=by simpa using hb
   subst e
   exact I1.fpOk (Nat.le_refl _) (I1.hok.fresh (Nat.le_refl _))
  ·intro H2 K2
   have sq2:=sqT_kp K2 hq
   refine⟨fun i t ei=>?_,⟨vs,sq2,by rw[rr.length];exact Nat.le_refl _⟩⟩
   obtain⟨v,ev,rv⟩:=rr.get ei
   refine⟨⟨vs,v,sq2,ev⟩,fun x H3 y=>?_⟩
   obtain⟨rfl,y⟩:=y
   have z:=y vs sq2
   rw[ev]at z
   cases z
   exact⟨.refl _,rv.kp K2⟩
 ·rename_i ts
  rw[rep_lst]at rt
  obtain⟨a,vs,rfl,hq,rr⟩:=rt
  cases r1
  obtain⟨its,rv,p,hz⟩:=I1.list hq.sq
  refine wpAny_pyIter_list p.isList ?_
  refine⟨s1.heap.objs.size,[s1.heap.objs.size],_,_,H1,rfl,I1.kept (t':=s1.toks) fun b o e=>Heap.get?_push_of_some _ e,turn_list a _,⟨_,Heap.get?_push_size _ rfl,rfl,rfl⟩,fun b hb=>?_,k ts (Itl X.K a) H1 S1 ?_ q1⟩
  ·have e:b=s1.heap.objs.size:=by simpa using hb
   subst e
   exact I1.fpOk (Nat.le_refl _) (I1.hok.fresh (Nat.le_refl _))
  ·intro H2 K2
   have sq2:=(sqF_kp K2 hq).sq
   refine⟨fun i t ei=>?_,⟨vs,sq2,by rw[rr.length];exact Nat.le_refl _⟩⟩
   obtain⟨v,ev,rv⟩:=rr.get ei
   refine⟨⟨vs,v,sq2,ev⟩,fun x H3 y=>?_⟩
   obtain⟨rfl,y⟩:=y
   have z:=y vs sq2
   rw[ev]at z
   cases z
   exact⟨.refl _,rv.kp K2⟩
def rangeT:Int->Nat->List T
 | _,0=>[]
 | lo,n + 1=>.int lo::rangeT (lo + 1) n
theorem rangeT_length:∀(lo:Int)(n:Nat),(rangeT lo n).length=n
 | _,0=>rfl
 | lo,n + 1=>by simp[rangeT,rangeT_length (lo + 1) n]
theorem rangeT_get:∀(lo:Int)(n i:Nat),i < n->(rangeT lo n)[i]?=some (.int (lo + i))
 | _,0,_,h=>by omega
 | lo,n + 1,0,_=>by simp[rangeT]
 | lo,n + 1,i + 1,h=>by
  simp only[rangeT,List.getElem?_cons_succ]
  rw[rangeT_get (lo + 1) n i (by omega)]
  congr 2
  push_cast
  omega
theorem wk_range{K:PySem.W.Frag}{H:Hp}(lo:Int)(n:Nat):Wk K (Itr lo n) (rangeT lo n) H:=by
 intro H2 _
 refine⟨fun i t ei=>?_,by show n<=_;rw[rangeT_length];exact Nat.le_refl _⟩
 have hi:i < n:=by
  have:=(List.getElem?_eq_some_iff.mp ei).1
  rwa [rangeT_length]at this
 rw[rangeT_get lo n i hi]at ei
 cases ei
 refine⟨hi,fun x H3 y=>?_⟩
 obtain⟨rfl,rfl⟩:=y
 exact⟨.refl _,rep_int.mpr rfl⟩
def iRange1(ws:WA):WI:=fun τ Q=>ws τ fun ts=>match ts with
 | [.int j]=>(-(2 ^ 62)<=j/\j < 2 ^ 62)/\Q (rangeT 0 j.toNat)
 | _=>False
theorem one_int{P:Int->Prop}{ts:List T}(h:match ts with|[.int j]=>P j|_=>False):∃j,ts=[.int j]/\P j:=by
 split at h
 ·exact⟨_,rfl,h⟩
 ·exact h.elim
theorem jiRange1{tg:Expr}{p:Pos} (hg:Gl X "range") (hm:X.mg "range" = none) (ha:JA X [a] ws) (hs:starEach [a] X.env=[(false,eval a X.env)]:=by rfl):JI X tg (.Call (.Name "range" p) [a] [] pos) (iRange1 ws) :=
 pi_of (pi_range1 hg hm ha hs) fun σ H R ⟨τ,Q0,Rs,hw,k⟩=>⟨τ,_,Rs,hw,fun ts vs H1 S1 r q=>by
   obtain⟨j,e0,q⟩:=one_int (P:=fun j=>(-(2 ^ 62)<=j/\j < 2 ^ 62)/\Q0 (rangeT 0 j.toNat)) q
   subst e0
   obtain⟨v,rfl,r1⟩:=reps1 r
   exact⟨j,by rw[rep_int.mp r1],q.1.1,q.1.2,k _ _ H1 S1 (wk_range 0 j.toNat) q.2⟩⟩
def iRange2(ws:WA):WI:=fun τ Q=>ws τ fun ts=>match ts with
 | [.int i,.int j]=>(-(2 ^ 62)<=i/\i < 2 ^ 62 /\ -(2 ^ 62)<=j/\j < 2 ^ 62)/\Q (rangeT i (j - i).toNat)
 | _=>False
end
end TL
end
section
namespace TL
open PySem PySem.Spec PyProof.Rows L2
section
variable {X:Cx} {pins:List (Addr×Obj)} {σ:St} {H:Hp} {s:Shared} {h':Heap}
theorem Inv.turnedT{t':Nat}{ch:List Addr}{p:Addr}{xs:List V}{us:List Value}(I:Inv X pins σ H s)(k:∀b o,b∉ch->s.heap.get? b=some o->h'.get? b=some o)(kt:∀b∈ch,∃o,h'.get? b=some o)
  (hch:∀b∈ch,FpOk X pins H b) (hp:s.heap.objs.size<=p) (hz:xs.length<=sizeLine) (r:Vals xs us) (ht:IsTup h' p us.toArray):Inv X pins σ (upd H p (.tup xs)) {s with heap:=h',toks:=t' }:=by
 have hpn:H p=none:=I.hok.fresh hp
 have nch:∀b u,H b=some u->b∉ch:=fun b u e z=>by rw[(hch b z).1]at e;cases e
 have nep:∀b u,H b=some u->b≠p:=fun b u e z=>by subst z;rw[hpn]at e;cases e
 have nlt:∀b o,s.heap.get? b=some o->b≠p:=fun b o e=>Nat.ne_of_lt (Nat.lt_of_lt_of_le (Heap.lt_size e) hp)
 refine I.step (g':=s.gens) (d':=s.drawn) (ch:=ch) (fun b hb=>?_) (fun b o _ _ hc e _=>k b o hc e) (fun b o _ _ hc e _=>⟨o.slots,k b o hc e⟩) (fun b o _ e n=>by rw[upd_ne (nlt b o e)];exact n)
  (fun b o hc e=>⟨o,k b o hc e⟩) (fun b ys e=>by rw[upd_ne (nep b _ e)];exact e) (fun b o u e=>by rw[upd_ne (nep b _ e)];exact e) (fun b ps e=>⟨#[],by rw[upd_ne (nep b _ e),e];simp⟩) (fun m hm=>?_) (fun b u e=>?_) I.bare
 ·obtain⟨f0,f1,f2,f3,f4,f5⟩:=hch b hb
  exact⟨f3,f1,f4,f5⟩
 ·obtain⟨o,es,ep,ho,r⟩:=hm
  exact⟨o,es,ep,k _ o (fun z=>(hch _ z).2.1 rfl) ho,r⟩
 ·by_cases hb:b=p
  ·subst hb
   rw[upd_same]at e
   cases e
   exact⟨hz,us,r,ht⟩
  ·rw[upd_ne hb]at e
   refine(I.hok b u e).stay (fun c v hc q=>k c v ?_ q) (fun c q=>by rw[upd_ne (nep c _ q)];exact q) fun c ys q=>by rw[upd_ne (nep c _ q)];exact q
   rcases hc with z|z
   ·rw[z];exact nch b u e
   ·exact nch c _ z
theorem Inv.turnedL{t':Nat}{ch:List Addr}(I:Inv X pins σ H s)(k:∀b o,b∉ch->s.heap.get? b=some o->h'.get? b=some o)
  (hch:∀b∈ch,FpOk X pins H b):Inv X pins σ H {s with heap:=h',toks:=t' }:=by
 have nch:∀b u,H b=some u->b∉ch:=fun b u e z=>by rw[(hch b z).1]at e;cases e
 refine I.step (g':=s.gens) (d':=s.drawn) (ch:=ch) (fun b hb=>?_) (fun b o _ _ hc e _=>k b o hc e) (fun b o _ _ hc e _=>⟨o.slots,k b o hc e⟩) (fun b o _ e n=>n)
  (fun b o hc e=>⟨o,k b o hc e⟩) (fun b ys e=>e) (fun b o u e=>e) (fun b ps e=>⟨#[],by rw[e];simp⟩) (fun m hm=>?_) (fun b u e=>?_) I.bare
 ·obtain⟨f0,f1,f2,f3,f4,f5⟩:=hch b hb
  exact⟨f3,f1,f4,f5⟩
 ·obtain⟨o,es,ep,ho,r⟩:=hm
  exact⟨o,es,ep,k _ o (fun z=>(hch _ z).2.1 rfl) ho,r⟩
 ·refine(I.hok b u e).stay (fun c v hc q=>k c v ?_ q) (fun _ q=>q) fun _ _ q=>q
  rcases hc with z|z
  ·rw[z];exact nch b u e
  ·exact nch c _ z
end
def Ite(K:PySem.W.Frag)(a:Addr):It :=
 ⟨fun i H=>∃xs x,SqL K H a xs/\xs[i]?=some x,fun i H x H'=>∃p y,H p=none/\x=.ref p/\H'=upd H p (.tup [.int i,y])/\∀xs,SqL K H a xs->xs[i]?=some y,fun i H=>∃xs,SqL K H a xs/\xs.length<=i⟩
theorem turn_enum{P:Program}{w:World}{K:PySem.W.Frag}{elts:List Expr}{x1}{tp:Pos}(a it en:Addr)(hne:en≠it) :
  Turn P w K (.Tuple elts x1 tp) (Ite K a) [en,it] en (fun i h=>(∃old,IsEnum h en it i old)/\h.IsListIter it a i) where
 mem:=by simp
 obj:=fun i h st b hb=>by
  obtain⟨⟨old,he⟩,o,e,c,d⟩:=st
  rcases List.mem_cons.mp hb with rfl|hb
  ·exact⟨_,he,fun v z=>by cases z⟩
  ·have e':b=it:=by simpa using hb
   subst e'
   exact⟨o,e,fun v z=>by rw[d]at z;cases z⟩
 keep:=fun i h h' st k=>⟨let ⟨old,he⟩:=st.1;⟨old,k en (by simp) _ he⟩,st.2.at fun o e=>k it (by simp) o e⟩
 item:=by
  intro X hP hw hK hc i pins s σ H E I hf st hg
  subst hP hw hK
  obtain⟨⟨old,he⟩,hit⟩:=st
  obtain⟨xs,x,hq,hx⟩:=hg
  obtain⟨its,rv,p,hz⟩:=I.list hq
  obtain⟨u,hu,ru⟩:=rv.get hx
  refine wpAny_pyNext_enum_item he hit p.isList (x:=u) (by simpa using hu) hne fun h1 heo hit1 ht1 hz1 hk1=>⟨_,rfl,?_⟩
  refine wpAny_letOwnedTupleGo_enum heo fun h2 he2 hs2=>?_
  have hpn:H s.heap.objs.size=none:=I.hok.fresh (Nat.le_refl _)
  have lt:∀b∈[en,it],b < s.heap.objs.size:=fun b hb=>by
   rcases List.mem_cons.mp hb with rfl|hb
   ·exact Heap.lt_size he
   ·have e':b=it:=by simpa using hb
    subst e'
    obtain⟨o,e,_⟩:=hit
    exact Heap.lt_size e
  have ht2:IsTup h2 s.heap.objs.size [Value.int i s.toks,u].toArray:=⟨_,(hs2.2 _ (Nat.ne_of_gt (lt en (by simp)))).trans ht1,rfl,_,rfl⟩
  have I2:Inv X pins σ (upd H s.heap.objs.size (.tup [.int i,x])) {s with heap:=h2,toks:=s.toks + 1}:=by
   refine Inv.turnedT (ch:=[en,it]) I (fun b o hb e=>?_) (fun b hb=>?_) hf (Nat.le_refl _) (by show 2<=sizeLine;decide) (.cons ⟨_,rfl⟩ (.cons ru .nil)) ht2
   ·have n1:b≠en:=fun z=>hb (by simp[z])
    have n2:b≠it:=fun z=>hb (by simp[z])
    exact(hs2.2 b n1).trans (hk1 b o n1 n2 e)
   ·rcases List.mem_cons.mp hb with rfl|hb
    ·exact⟨_,he2⟩
    ·have e':b=it:=by simpa using hb
     subst e'
     obtain⟨o,e,_⟩:=hit1
     exact⟨o,(hs2.2 b (Ne.symm hne)).trans e⟩
  refine⟨.ref s.heap.objs.size,_,I2,rfl,⟨_,x,hpn,rfl,rfl,fun ys hy=>by rw[I.list_inj hy hq];exact hx⟩,⟨⟨u,?_⟩,?_⟩,fun b hb=>?_⟩
  ·exact he2
  ·obtain⟨o,e,r⟩:=hit1
   exact⟨o,(hs2.2 it (Ne.symm hne)).trans e,r⟩
  ·rw[upd_ne (Nat.ne_of_lt (lt b hb))]
   exact(hf b hb).1
 done:=by
  intro X hP hw hK hc i pins s σ H E I hf st hg
  subst hP hw hK
  obtain⟨⟨old,he⟩,hit⟩:=st
  obtain⟨xs,hq,hx⟩:=hg
  obtain⟨its,rv,p,hz⟩:=I.list hq
  have hl:=rv.length
  refine wpAny_pyNext_enum_end (I.ok.hd hc) he hit p.isList (by simp;omega) fun h1 eb=>⟨rfl,?_⟩
  refine Inv.turnedL (ch:=[en,it]) I (t':=s.toks) (fun b o hb e=>eb b o (fun z=>hb (by simp[z])) e) hf
 self:=fun _ _ _ _ _ st h=>let ⟨old,he⟩:=st.1;wpAny_pyIter_enum he h
def enumT:Nat->List T->List T
 | _,[]=>[]
 | i,x::xs=>.tup [.int i,x]::enumT (i + 1) xs
theorem enumT_length:∀(i:Nat)(ts:List T),(enumT i ts).length=ts.length
 | _,[]=>rfl
 | i,_::r=>by simp[enumT,enumT_length (i + 1) r]
theorem enumT_get:∀(ts:List T)(j i:Nat)(t:T),ts[i]?=some t->(enumT j ts)[i]?=some (.tup [.int ((j + i:Nat):Int),t])
 | [],_,_,_,h=>by simp at h
 | x::r,j,0,t,h=>by simp at h;subst h;simp[enumT]
 | x::r,j,i + 1,t,h=>by
  simp only[enumT,List.getElem?_cons_succ]
  rw[enumT_get r (j + 1) i t (by simpa using h)]
  congr 5
  omega
section
variable {X:Cx} {a:Expr} {wa w:WE} {ws:WA} {pos:Pos}
def iEnum(ws:WA):WI:=fun τ Q=>ws τ fun ts=>match ts with
 | [.lst xs]=>Q (enumT 0 xs)
 | _=>False
theorem one_lst{P:List T->Prop}{ts:List T}(h:match ts with|[.lst xs]=>P xs|_=>False):∃xs,ts=[.lst xs]/\P xs:=by
 split at h
 ·exact⟨_,rfl,h⟩
 ·exact h.elim
theorem jiEnum{elts:List Expr}{x1}{tp p:Pos} (hg:Gl X "enumerate") (hm:X.mg "enumerate" = none) (ha:JA X [a] ws) (hs:starEach [a] X.env=[(false,eval a X.env)]:=by rfl) :
  JI X (.Tuple elts x1 tp) (.Call (.Name "enumerate" p) [a] [] pos) (iEnum ws):=by
 intro pins s σ H R I hw
 obtain⟨τ,Q0,Rs,hw,k⟩:=hw
 refine Call_ (ld_blt I hg hm boot_enumerate (PyProof.Rows.callWith_type1 (thn (ha pos pins s σ H (fun vs H1=>∃ts,Same H H1/\Reps X.K H1 ts vs/\(match ts with|[.lst xs]=>Q0 (enumT 0 xs)|_=>False)) I ⟨τ,_,Rs,hw,fun ts vs H1 S r q=>⟨ts,S,r,q⟩⟩) fun us s1 ⟨vs,H1,I1,r1,ts,S1,rt,q1⟩=>?_) hs rfl))
 ·obtain⟨xs,e0,q1⟩:=one_lst (P:=fun xs=>Q0 (enumT 0 xs)) q1
  subst e0
  obtain⟨v,rfl,rt1⟩:=reps1 rt
  rw[rep_lst]at rt1
  obtain⟨l,vs,rfl,hq,rr⟩:=rt1
  obtain⟨u,rfl,ru⟩:=vals1 r1
  cases ru
  obtain⟨its,rv,pl,hz⟩:=I1.list hq.sq
  refine call_enumerate_list pl.isList fun h2 he hit hsz hk=>?_
  refine wpAny_pyIter_enum he ?_
  have I2:Inv X pins σ H1 {s1 with heap:=h2}:=I1.kept (t':=s1.toks) hk
  refine⟨s1.heap.objs.size + 1,[s1.heap.objs.size + 1,s1.heap.objs.size],_,Ite X.K l,H1,rfl,I2,turn_enum l s1.heap.objs.size (s1.heap.objs.size + 1) (Nat.succ_ne_self _),⟨⟨_,he⟩,hit⟩,fun b hb=>?_,k _ _ H1 S1 ?_ q1⟩
  ·have hb':s1.heap.objs.size<=b:=by
    rcases List.mem_cons.mp hb with rfl|hb
    ·exact Nat.le_succ _
    ·have e:b=s1.heap.objs.size:=by simpa using hb
     rw[e]
     exact Nat.le_refl _
   exact I1.fpOk hb' (I1.hok.fresh hb')
  ·intro H2 K2
   have sq2:=(sqF_kp K2 hq).sq
   refine⟨fun i t ei=>?_,⟨vs,sq2,by rw[rr.length,enumT_length];exact Nat.le_refl _⟩⟩
   have hi:i < xs.length:=by
    have:=(List.getElem?_eq_some_iff.mp ei).1
    rwa [enumT_length]at this
   have ex:xs[i]?=some xs[i]:=List.getElem?_eq_getElem hi
   rw[enumT_get xs 0 i _ ex]at ei
   cases ei
   obtain⟨v,ev,rv⟩:=rr.get ex
   refine⟨⟨vs,v,sq2,ev⟩,fun x H3 y=>?_⟩
   obtain⟨p,y,hp,rfl,rfl,hy⟩:=y
   have z:=hy vs sq2
   rw[ev]at z
   cases z
   refine⟨same_new hp _,rep_tup.mpr ⟨p,_,rfl,SqT.of upd_same,.cons (rep_int.mpr ?_) (.one ((rv.kp K2).kp (.of (same_new hp _))))⟩⟩
   simp
end
end TL
end
section
namespace TL
open PySem PySem.Spec PyProof.Rows L2
def Cal(P:Program)(w:World)(K:PySem.W.Frag)(mg:Str->Option Value)(base:Heap)(k:Nat)(x:Str)(ps:List Str)(S:SpT):Prop :=
 ∃f fd,FnT P w K mg base k f fd ps S/\Binds K fd ps []/\PySem.W.keepIn K (.ref f)=true/\mg x=some (.ref f)
theorem Cal.mk{P:Program}{w:World}{K:PySem.W.Frag}{mg:Str->Option Value}{base:Heap}{k:Nat}{x qual:Str}{ps:List Str}{S:SpT}{st:Stmt}{f:Addr}{fd:FuncData}(F:Fun K x qual st f fd)(m:mg x=some (.ref f))
  (b:Binds K fd ps []) (h:FnT P w K mg base k f fd ps S):Cal P w K mg base k x ps S:=⟨f,fd,h,b,F.kp,m⟩
section
variable {X:Cx} {a b c e:Expr} {es:List Expr} {wa wb wc w:WE} {ws:WA} {pos:Pos} {st:Stmt}
theorem jcallC{k:Nat}{ps:List Str}{S:SpT}{x:Str}{p:Pos}(C:Cal X.prog X.w X.K X.mg X.base k x ps S)(hr:Room k X.A)(hg:Gl X x)
  (ha:JA X (e::es) ws) (hdb:(x==("__debug__" : Str))=false:=by decide) (he:starEach (e::es) X.env=(false,eval e X.env)::starEach es X.env:=by exact star1 rfl)
  (hpl:(backTo pos (starEach es X.env)).any (·.1)=false:=by exact stars rfl):JE X (.Call (.Name x p) (e::es) [] pos) (wCall S ws):=by
 obtain⟨f,fd,F,hb,hk,hm⟩:=C
 exact jcall F hr hg hm hk hb ha hdb he hpl
def sNever:WS:=fun _ _=>False
def GlV(K:PySem.W.Frag)(t:T)(u:Value):Prop:=∃v,RelV v u/\∀H,Rep K H t v
def GlC(K:PySem.W.Frag)(mg:Str->Option Value)(x:Str)(t:T):Prop:=∃u,mg x=some u/\GlV K t u
theorem jglobC{x:Str}{t:T}{pos:Pos}(g:GlC X.K X.mg x t)(hg:Gl X x) (hd:(x==("__debug__" : Str))=false:=by decide):JE X (.Name x pos) (wC t):=by
 obtain⟨u,hm,v,r,q⟩:=g
 exact jglob hg hm r q hd
end
def lawSp:SpT:=fun ts Q=>∃ns:List Int,ts=[.lst (ns.map T.int)]/\ns.length<=63/\Q (.bl true)
theorem len_law:∀ts Q,lawSp ts Q->ts.length=1:=fun ts Q ⟨ns,e,_⟩=>by subst e;rfl
theorem law_start{K:PySem.W.Frag}{H:Hp}{a:Addr}{ns:List Int}(hl:ns.length<=63)(hO:Only H)(hS:SqL K H a (ns.map V.int)):spT K 1 lawSp [.ref a] H (fun v _=>v=.bl true) fun _ _ _=>False:=by
 have sq:SqF K H a (ns.map V.int):=by
  rcases hS with (h|⟨o,h⟩)|h
  ·rcases hO a with z|⟨o,xs,z⟩
   ·rw[z]at h;cases h
   ·rw[z]at h;cases h
  ·exact .inl ⟨o,h⟩
  ·exact .inr h
 exact⟨_,fun t=>t=.bl true,rfl,.one (rep_lst.mpr ⟨a,_,rfl,sq,reps_ints ns⟩),⟨ns,rfl,hl,rfl⟩,fun t v H' S r q=>by subst q;exact rep_bl.mp r⟩
theorem walk{l:PySem.W.OpenLaw}{k:Nat}{x:Str}{q:Program}{loose:List Str}{XP:(Str->Option Value)->Heap->Prop}{YP:World->Heap->Prop}{d:DefRec}{K:Params->PySem.W.Frag}(hn:l.most=some 63)(hdf:d.params.defaults=[])(hr:Room k callerA)
  (hY:∀(w:World)(h:Heap),YP w h->(K w.params).In h)
  (F:∀(w:World)(mg:Str->Option Value)(fa:Addr)(h:Heap),(K w.params).In h->h.Ns mainGlobals mg->mg d.name=some (.ref fa) →
   ∃fd:FuncData,(∀(s:Shared)(u:Value),BindsTo s fd ⟨[u],[]⟩ [(x,u)])/\∀base:Heap,(K w.params).In base->base.Ns mainGlobals mg->FnOk l.prog w (K w.params) mg base CX0 k fa fd [x] (spT (K w.params) 1 lawSp)) :
  PySem.W.WalkO q loose XP YP l.row.toRowW d [] (fun f vs=>PySem.call f vs) :=
 L2.walk_of (n:=63) (k:=k) (x:=x) (CX:=fun _=>CX0) (sp:=fun w=>spT (K w.params) 1 lawSp) hn (by decide) hdf hr hY F (fun _ _ _ _ hl hO hS=>law_start hl hO hS) fun _ _ _ _ _ z=>z
end TL
end
section
namespace TL
open PySem PySem.Spec PyProof.Rows L2
theorem closLoop{env:Env}:∀(names:List (Str×NameKind))(cs:List (Str×Addr)),(∀x∈names,x.2=.free->∃c,env.cells.lookup x.1=some c)->(∀x c,cs.lookup x=some c->env.cells.lookup x=some c) →
  ∃cl,(forIn names cs fun x cs=>(if (x.2==NameKind.free)=true then do let a ← cellOf env x.1;pure (ForInStep.yield ((x.1,a)::cs)) else pure (ForInStep.yield cs):Sem (ForInStep (List (Str×Addr)))))=(pure cl:Sem (List (Str×Addr))) ∧
   (∀x c,cl.lookup x=some c->env.cells.lookup x=some c)/\(∀x c,cs.lookup x=some c->∃c,cl.lookup x=some c)/\∀x∈names,x.2=.free->∃c,cl.lookup x.1=some c
 | [],cs,_,hc=>⟨cs,rfl,hc,fun x c e=>⟨c,e⟩,fun _ h=>nomatch h⟩
 | (n,k)::r,cs,h,hc=>by
  by_cases hk:k=.free
  ·subst hk
   obtain⟨c,ec⟩:=h (n,.free) List.mem_cons_self rfl
   have e0:cellOf env n=pure c:=by unfold cellOf;rw[ec]
   obtain⟨cl,e,p1,p2,p3⟩:=closLoop (env:=env) r ((n,c)::cs) (fun x hx=>h x (List.mem_cons_of_mem _ hx)) (fun x d e=>by
    by_cases hx:x=n
    ·subst hx
     simp at e
     subst e
     exact ec
    ·have hb:(x==n)=false:=by simpa using hx
     rw[List.lookup_cons,hb]at e
     exact hc x d e)
   refine⟨cl,?_,p1,fun x d e=>?_,fun x hx hf=>?_⟩
   ·rw[List.forIn_cons]
    show ((if (NameKind.free==NameKind.free)=true then _ else _) >>= _)=_
    rw[if_pos (show (NameKind.free==NameKind.free)=true from rfl)]
    show ((cellOf env n >>= fun a=>pure (ForInStep.yield ((n,a)::cs))) >>= _)=_
    rw[e0]
    exact e
   ·by_cases hx:x=n
    ·subst hx
     exact p2 x c (by simp)
    ·have hb:(x==n)=false:=by simpa using hx
     exact p2 x d (by rw[List.lookup_cons,hb];exact e)
   ·rcases List.mem_cons.mp hx with rfl|hx
    ·exact p2 n c (by simp)
    ·exact p3 x hx hf
  ·have hb:(k==NameKind.free)=false:=by simpa using hk
   obtain⟨cl,e,p1,p2,p3⟩:=closLoop (env:=env) r cs (fun x hx=>h x (List.mem_cons_of_mem _ hx)) hc
   refine⟨cl,?_,p1,p2,fun x hx hf=>?_⟩
   ·rw[List.forIn_cons]
    show ((if (k==NameKind.free)=true then _ else _) >>= _)=_
    rw[if_neg (by rw[hb];exact Bool.false_ne_true)]
    exact e
   ·rcases List.mem_cons.mp hx with rfl|hx
    ·exact absurd hf hk
    ·exact p3 x hx hf
theorem closureFor_of{scope:Scope}{env:Env}(h:∀x∈scope.names,x.2=.free->∃c,env.cells.lookup x.1=some c) :
  ∃cl,closureFor scope env=pure cl/\(∀x c,cl.lookup x=some c->env.cells.lookup x=some c)/\∀x∈scope.names,x.2=.free->∃c,cl.lookup x.1=some c:=by
 obtain⟨cl,e,p1,_,p3⟩:=closLoop (env:=env) scope.names [] h (fun x c e=>by simp at e)
 refine⟨cl,?_,p1,p3⟩
 unfold closureFor
 have:(forIn scope.names ([]:List (Str×Addr)) fun x cs=>(match x with|(name,kind)=>(if (kind==NameKind.free)=true then do let a ← cellOf env name;pure (ForInStep.yield ((name,a)::cs)) else pure (ForInStep.yield cs):Sem (ForInStep (List (Str×Addr))))))=(pure cl:Sem (List (Str×Addr))):=e
 first
  | (rw[this];rfl)
  | (show (forIn scope.names ([]:List (Str×Addr)) _ >>= fun cs=>pure cs)=_;rw[this];rfl)
def compCx(X:Cx)(N:List Str)(scope:Scope)(cl:List (Str×Addr))(C:Addr)(s3:Shared)(H2:Hp)(ex:List Addr):Cx where
 prog:=X.prog
 w:=X.w
 K:=X.K
 mg:=X.mg
 base:=X.base
 A:=X.A
 N:=N
 s₀:=s3
 H₀:=H2
 env:=compEnvC scope cl C X.env
 outer:=X.stack
 stack:=X.stack
 ex:=ex
 fn:=fun _=>false
 calm:=true
 pn:=[]
 xe:=fun _ _=>False
section
variable {prog:Program} {w:World} {A:Around} {E:Value->Shared->Prop} {R:Result->Shared->Prop} {s:Shared}
theorem codeAny_compLoop_any{elt target iter:Expr}{ifs:List Expr}{scope:Scope}{pos:Pos}{it acc:Value}{env:Env}(I:Nat->Shared->Prop)
  (turn:∀n s,I n s->wpAny (model prog w) A (pyNext it) (fun r s₁=>match r with
   | none=>R (.ok .next) s₁
   | some v=>wpAny (model prog w) A (letOwnedTupleGo target it v) (fun _ s₁'=>wpAny (model prog w) A (assign target env v) (fun _ s₂ =>
     wpAny (model prog w) A (forIn ifs true fun c r=>if r=true then do let ok ← isTrue c env (eval c env);pure (ForInStep.yield ok) else pure (ForInStep.yield r)) (fun ok s₃ =>
      if ok=true then wpAny (model prog w) A (eval elt env) (fun x s₄ =>
       wpAny (model prog w) A (call (.builtin "list.append") [acc,x]) (fun _ s₅=>∃m,m < n/\I m s₅) (fun _ _=>False) s₄) (fun _ _=>False) s₃
      else ∃m,m < n/\I m s₃) (fun _ _=>False) s₂) (fun _ _=>False) s₁') (fun _ _=>False) s₁) (fun _ _=>False) s)
  (n:Nat) (h:I n s) :
  codeAny (model prog w) A (.compLoop (.ListComp elt [⟨target,iter,ifs,0⟩] scope pos) 0 it acc env) R s:=by
 refine codeAny_loop rfl I (fun n s hI=>?_) n h
 show wpAny _ A ((compTurn (.ListComp elt [⟨target,iter,ifs,0⟩] scope pos) 0 it acc env).onRaise (fun x=>do noteFrame x env;theTreesLotGoes x)) _ _ s
 refine wpAny_noted ?_
 rw[compTurn_list]
 refine wpAny_bind (wpAny_standAt (wpAny_bind (wpAny_mono (turn n s hI) (fun r s₁ h₁=>?_) fun _ _ h'=>h'.elim)))
 cases r with
 | none=>exact wpAny_pure h₁
 | some v =>
  refine wpAny_bind (wpAny_mono h₁ (fun _ s₁' h₁'=>?_) fun _ _ h'=>h'.elim)
  refine wpAny_bind (wpAny_mono h₁' (fun _ s₂ h₂=>wpAny_bind (wpAny_mono h₂ (fun ok s₃ h₃=>?_) fun _ _ h'=>h'.elim)) fun _ _ h'=>h'.elim)
  cases ok with
  | false=>exact wpAny_pure ⟨rfl,h₃⟩
  | true =>
   exact wpAny_bind (wpAny_bind (wpAny_mono h₃ (fun x s₄ h₄=>wpAny_bind (wpAny_mono h₄ (fun _ s₅ h₅=>wpAny_pure (wpAny_pure ⟨rfl,h₅⟩)) fun _ _ h'=>h'.elim)) fun _ _ h'=>h'.elim))
end
def hide:Slot->Slot
 | .own ts=>.see ts
 | .see _=>.no
 | .vat t _=>.val t
 | .owd _ _=>.no
 | s=>s
def compT(g:TGt)(ut:WT)(we:WE):List T->List T->List Slot->(List T->Prop)->Prop
 | [],acc,_,Q=>Q acc
 | x::xs,acc,τ,Q=>g x τ fun τ1=>ut τ1 fun k=>(k=true->we τ1 fun t=>compT g ut we xs (acc++[t]) τ1 Q)/\(k=false->compT g ut we xs acc τ1 Q)
def wComp(wi:WI)(g:TGt)(ut:WT)(we:WE)(n:Nat)(fr:List Nat):WE:=fun τ Q=>wi τ fun ts=>ts.length<=1000/\compT g ut we ts [] (List.replicate n Slot.no++fr.map fun i=>hide (sget τ i)) fun rs=>Q (.lst rs)
def JTs(X:Cx)(ifs:List Expr)(u:WT):Prop :=
 ∀(pins:List (Addr×Obj))(s:Shared)(σ:St)(H:Hp)(Q:Bool->Hp->Prop),Inv X pins σ H s->upT X.K X.H₀ u σ H Q →
  wpAny (model X.prog X.w) X.A (forIn ifs true fun c r=>if r=true then do let ok ← isTrue c X.env (eval c X.env);pure (ForInStep.yield ok) else pure (ForInStep.yield r)) (TP X pins σ Q) X.xe s
def tTrue:WT:=fun _ Q=>Q true
theorem jts0{X:Cx}:JTs X [] tTrue:=fun pins s σ H Q I ⟨τ,Q0,R,hw,k⟩=>wpAny_tests_nil ⟨H,I,k _ H (.refl H) hw⟩
theorem relabel_mem{scope:Scope}{env:Env}{x:Str}{k':NameKind}(h:(relabel scope env).names.lookup x=some k'):∃k,(x,k)∈scope.names/\(k'=k∨(k=.free/\k'=.cell)):=by
 have hm:=PySem.mem_of_lookup h
 obtain⟨⟨n,k⟩,hn,e⟩:=List.mem_map.mp hm
 by_cases hc:(k==NameKind.free&&env.scope.kind == .function&&env.kindOf n==some .cell)=true
 ·have e':(n,NameKind.cell)=(x,k'):=by simpa [hc] using e
  cases e'
  have hfree:=(Bool.and_eq_true_iff.mp (Bool.and_eq_true_iff.mp hc).1).1
  exact⟨_,hn,.inr ⟨by simpa using hfree,rfl⟩⟩
 ·have e':(n,k)=(x,k'):=by simpa [hc] using e
  cases e'
  exact⟨_,hn,.inl rfl⟩
theorem relabel_free{env:Env}(hk:env.scope.kind=.function):∀{names:List (Str×NameKind)}{x:Str},names.lookup x=some .free->env.kindOf x=some .cell →
  (names.map fun (n,k)=>if (k==NameKind.free&&env.scope.kind == .function&&env.kindOf n==some .cell) then (n,NameKind.cell) else (n,k)).lookup x=some .cell
 | [],_,h,_=>by simp at h
 | (n,k)::r,x,h,hx=>by
  have ih:=@relabel_free env hk r x
  show List.lookup x ((if (k==NameKind.free&&env.scope.kind == .function&&env.kindOf n==some .cell)=true then (n,NameKind.cell) else (n,k))::_)=_
  cases hb:x==n with
  | true =>
   have e:x=n:=by simpa using hb
   subst e
   simp only[List.lookup_cons,hb]at h
   cases h
   rw[if_pos (by rw[hk,hx];rfl)]
   simp[List.lookup_cons]
  | false =>
   simp only[List.lookup_cons,hb]at h
   by_cases hc:(k==NameKind.free&&env.scope.kind == .function&&env.kindOf n==some .cell)=true
   ·rw[if_pos hc];simp only[List.lookup_cons,hb];exact ih h hx
   ·rw[if_neg hc];simp only[List.lookup_cons,hb];exact ih h hx
section
variable {X:Cx} {pos:Pos}
theorem comp_start{pins:List (Addr×Obj)}{σ:St}{H:Hp}{s:Shared}{scope:Scope}{cl:List (Str×Addr)}{C:Addr}{N:List Str}{σ':St}{s4:Shared}{ex:List Addr}
  (I:Inv X pins σ H s) (hc:X.calm=true) (hk:scope.kind=.function) (hC:s.heap.objs.size<=C)
  (hcl:∀x c,cl.lookup x=some c->X.env.cells.lookup x=some c)
  (hhas:∀x,((relabel scope X.env).names.lookup x=some .cell∨(relabel scope X.env).names.lookup x=some .free)->∃c,cl.lookup x=some c)
  (hex:∀b∈ex,FpOk X pins H b) (hlt:∀b∈ex,b < s.heap.objs.size)
  (hos:s4.os=s.os) (hbare:AllBare s4.gens) (hkeep:∀b o,s.heap.get? b=some o->s4.heap.get? b=some o) {m:Str->Option Value} (hns:s4.heap.Ns C m)
  (hloc:∀(i:Nat)(x:Str)(v:V),N[i]?=some x->σ'[i]?=some (some v)->∃u,RelV v u/\Look (compEnvC scope cl C X.env) s4.heap m x u) (hlen:σ'.length=N.length) :
  Inv (compCx X N scope cl C s H ex) [] σ' H s4:=by
 have bs:=I.bs
 refine⟨⟨I.ok.mod,hk,I.ok.glob,I.ok.blt,hC,fun x y c h1 h2=>I.ok.inj x y c (hcl _ _ h1) (hcl _ _ h2),hhas,fun _ _ z=>(by cases z),fun _=>I.ok.hd hc,I.ok.frames,.inl rfl,
   fun b hb=>⟨Nat.ne_of_lt (Nat.lt_of_lt_of_le (hlt b hb) hC),fun x c e=>(hex b hb).2.2.2.2.1 x c (hcl _ _ e)⟩,bs,Nat.le_trans I.ok.bsz I.sz,fun b o e hb=>?_,fun b hb=>?_,I.stack,I.stkFree⟩,
  hos,hbare,Un.kept hkeep,⟨m,hns,fun i x v h1 h2 _=>hloc i x v h1 h2⟩,fun x c e=>?_,I.hok.fresh hC,fun x c e=>I.freeC x c (hcl _ _ e),fun p hp=>absurd (show p∈([]:List (Addr×Obj)) from hp) (by simp),I.hok.kept hkeep,hlen⟩
 ·rcases (hex b hb).2.2.2.1 with z|z
  ·exact I.ok.noex b o e z
  ·exact absurd (Nat.lt_of_lt_of_le (Heap.lt_size e) (Nat.le_trans I.ok.bsz z)) (Nat.lt_irrefl _)
 ·intro z
  obtain⟨_,f1,f2,_⟩:=hex b hb
  rcases List.mem_cons.mp (I.stkSub b z) with e|e
  ·exact f1 e
  ·exact f2 e
 ·obtain⟨v,o,ho,hd⟩:=I.cell x c (hcl _ _ e)
  exact⟨v,o,hkeep c o ho,hd⟩
def slotsOf(σ:St)(n:Nat)(fr:List (Str×Nat)):St:=List.replicate n none++fr.map fun p=>(σ[p.2]?).getD none
theorem repSt_comp{K:PySem.W.Frag}{H0 H H2:Hp}{σ:St}{τ:List Slot}(n:Nat)(fr:List (Str×Nat))(R:RepSt K H0 H σ τ)(S:Same H H2) :
  RepSt K H2 H2 (slotsOf σ n fr) (List.replicate n Slot.no++(fr.map (·.2)).map fun i=>hide (sget τ i)):=by
 have key:∀i,sget (List.replicate n Slot.no++(fr.map (·.2)).map fun i=>hide (sget τ i)) i=.no∨∃p,fr[i - n]?=some p/\n<=i/\sget (List.replicate n Slot.no++(fr.map (·.2)).map fun i=>hide (sget τ i)) i=hide (sget τ p.2):=fun i=>by
  by_cases hi:i < n
  ·left
   rw[sget_append_left (by simpa using hi),sget_no]
  ·rw[sget_append_right (by simpa using hi),List.length_replicate]
   have gen:∀(l:List (Str×Nat))(j:Nat),sget ((l.map (·.2)).map fun i=>hide (sget τ i)) j=.no∨∃p,l[j]?=some p/\sget ((l.map (·.2)).map fun i=>hide (sget τ i)) j=hide (sget τ p.2):=by
    intro l
    induction l with
    | nil=>intro j;left;rfl
    | cons p r ih =>
     intro j
     cases j with
     | zero=>exact .inr ⟨p,rfl,rfl⟩
     | succ j=>exact ih j
   rcases gen fr (i - n) with z|⟨p,e1,e2⟩
   ·exact .inl z
   ·exact .inr ⟨p,e1,by omega,e2⟩
 have noOwn:∀s ts,hide s ≠ .own ts:=fun s ts=>by cases s<;>simp[hide]
 refine⟨.refl H2,by simp[slotsOf],fun i=>?_,fun i j ts us p _ h1 _ _ _=>?_⟩
 ·rcases key i with z|⟨p,e1,hi,e2⟩
  ·rw[z];trivial
  ·rw[e2]
   have ge:(slotsOf σ n fr)[i]?=some ((σ[p.2]?).getD none):=by
    unfold slotsOf
    rw[List.getElem?_append_right (by simpa using hi),List.length_replicate,List.getElem?_map,e1]
    rfl
   have sl:=R.slot p.2
   cases e:sget τ p.2 with
   | no=>trivial
   | see ts=>trivial
   | owd _ _=>trivial
   | vat t v =>
    rw[e]at sl
    exact⟨v,by rw[ge,sl.1];rfl,sl.2.kp (.of S)⟩
   | dic ps =>
    rw[e]at sl
    obtain⟨q,o,kvs,ev,h1,ek,r⟩:=sl
    exact⟨q,o,kvs,by rw[ge,ev];rfl,S _ _ h1,ek,r.kp (.of S)⟩
   | own ts =>
    rw[e]at sl
    obtain⟨q,vs,ev,h1,r,_⟩:=sl
    exact⟨q,vs,by rw[ge,ev];rfl,S _ _ h1,r.kp (.of S),by rw[S _ _ h1];exact fun z=>by cases z⟩
   | val t =>
    rw[e]at sl
    obtain⟨v,ev,r⟩:=sl
    exact⟨v,by rw[ge,ev];rfl,r.kp (.of S)⟩
 ·rcases key i with z|⟨p,_,_,e2⟩
  ·rw[z]at h1;cases h1
  ·rw[e2]at h1;exact noOwn _ _ h1
theorem comp_end{X X':Cx}{pins pins':List (Addr×Obj)}{σ σ5:St}{H2 H5:Hp}{s2 s6:Shared}{fp:List Addr}{Da:Addr}{h3:Heap}{vs:List V}{its:List Value}{k5:Nat}(eP:X'.prog=X.prog)(eW:X'.w=X.w)(eFs:X'.fs=frs X.stack)(eEx:X'.ex=Da::fp)(eH:X'.H₀=H2)
  (eS:X'.s₀.heap=h3) (eOs:X'.s₀.os=s2.os) (hCn:X'.env.locals=Da + 1) (pushK:∀b o,s2.heap.get? b=some o->h3.get? b=some o) (hDa:s2.heap.objs.size=Da) (I2:Inv X pins σ H2 s2) (f2:∀b∈fp,FpOk X pins H2 b) (I6:Inv X' pins' σ5 H5 s6)
  (frD:H5 Da=none) (hD:s6.heap.get? Da=some {cls:=.type "list", dict:=none,data:=.seq its.toArray k5}) (rv:Vals vs its) (hz:vs.length<=sizeLine) :
  Inv X pins σ (upd H5 Da (.frz {cls:=.type "list", dict:=none,data:=.seq its.toArray k5} (.lst vs))) s6:=by
 have un:=I6.base
 rw[eFs,eEx,eH,eS]at un
 have old:∀b o,s2.heap.get? b=some o->b≠Da:=fun b o e=>by
  have lt:=Heap.lt_size e
  rw[hDa]at lt
  exact Nat.ne_of_lt lt
 have hnD:∀b,H5 b≠none->b≠Da:=fun b h z=>h (by rw[z];exact frD)
 have ex:∀b o,s2.heap.get? b=some o->b∉fp->b∉Da::fp:=fun b o e hb z=>by
  rcases List.mem_cons.mp z with z|z
  ·exact old b o e z
  ·exact hb z
 refine I2.call' (s':=s6) (ch:=fp) (by rw[I6.os,eOs]) ⟨fun b o e n hf hx=>?_,fun b o e n hf hx=>?_,fun b o e n hx=>?_,fun b o e hx=>?_,fun b xs e=>?_,fun b o u e=>?_,fun b ps e=>?_⟩ (fun b ob eb=>?_) I6.bare fun b hb=>?_
 ·exact un.keep b o (pushK b o e) n hf (ex b o e hx)
 ·exact un.slot b o (pushK b o e) n hf (ex b o e hx)
 ·rw[upd_ne (old b o e)]
  exact un.free b o (pushK b o e) n (ex b o e hx)
 ·exact un.there b o (pushK b o e) (ex b o e hx)
 ·have e1:=un.tups b xs e
  rw[upd_ne (hnD b (by rw[e1];simp))]
  exact e1
 ·have e1:=un.frzs b o u e
  rw[upd_ne (hnD b (by rw[e1];simp))]
  exact e1
 ·obtain⟨more,e1⟩:=un.tbls b ps e
  exact⟨more,by rw[upd_ne (hnD b (by rw[e1];simp))];exact e1⟩
 ·by_cases hb:b=Da
  ·subst hb
   rw[upd_same]at eb
   cases eb
   exact⟨hD,hz,its,k5,rv,hD⟩
  ·rw[upd_ne hb]at eb
   have o5:=I6.hok b ob eb
   rw[eP,eW]at o5
   exact o5.stay (fun c v hc q=>q) (fun c q=>by rw[upd_ne (hnD c (by rw[q];simp))];exact q) fun c ys q=>by rw[upd_ne (hnD c (by rw[q];simp))];exact q
 ·obtain⟨g1,g2,g3,g4,g5,g6⟩:=f2 b hb
  exact⟨g4,g2,g5,g6⟩
def WkS(K:PySem.W.Frag)(J:It)(ts:List T)(H1:Hp):Prop:=∀H2,Same H1 H2->(∀i t,ts[i]?=some t->J.go i H2/\∀x H3,J.yld i H2 x H3->Same H2 H3/\Rep K H3 t x)/\J.stop ts.length H2
theorem Wk.s{K:PySem.W.Frag}{J:It}{ts:List T}{H:Hp}(h:Wk K J ts H):WkS K J ts H:=fun H2 S=>h H2 (.of S)
def upIc(K:PySem.W.Frag)(H0:Hp)(w:WI):TI:=fun σ H R=>∃(τ:List Slot) (Q0:List T->Prop),RepSt K H0 H σ τ/\w τ Q0/\∀ts J H',Same H H'->WkS K J ts H'->Q0 ts->R J H'
def JIc(X:Cx)(tg iter:Expr)(w:WI):Prop:=PI X tg iter (upIc X.K X.H₀ w)
theorem JI.c{X:Cx}{tg iter:Expr}{w:WI}(h:JI X tg iter w):JIc X tg iter w:=pi_of h fun σ H R ⟨τ,Q0,R0,hw,k⟩=>⟨τ,Q0,R0,hw,fun ts J H' S wk q=>k ts J H' S wk.s q⟩
inductive CompInv (K:PySem.W.Frag) (X':Cx) (ts:List T) (g:TGt) (ut:WT) (we:WE) (Q0:T->Prop) (tn':Nat->Heap->Prop) (Da:Addr) (fp:List Addr) (n:Nat) (s':Shared):Prop
 | mk (i:Nat) (σ':St) (H':Hp) (τ':List Slot) (acc:List T) (vs:List V) (its:List Value) (k:Nat) (e:n=ts.length - i) (hi:i<=ts.length) (I:Inv X' [] σ' H' s') (st:tn' i s'.heap) (fr:∀b∈Da::fp,H' b=none)
  (R:RepSt X'.K X'.H₀ H' σ' τ') (hD:s'.heap.get? Da=some {cls:=.type "list", dict:=none,data:=.seq (List.toArray its) k}) (rv:Vals vs its) (ra:Reps K H' acc vs) (hl:acc.length<=i) (q:compT g ut we (ts.drop i) acc τ' fun rs=>Q0 (.lst rs)) :
  CompInv K X' ts g ut we Q0 tn' Da fp n s'
theorem comp_loop{X X':Cx}{elt target iter:Expr}{ifs:List Expr}{scope:Scope}{pos:Pos}{g:TGt}{ut:WT}{we:WE}{use:Option (Value->Sem Unit)}{QQ:Value->Shared->Prop}{pins:List (Addr×Obj)}{σ σ4:St}{H H2:Hp}{s2 s4:Shared}{h3:Heap}{it Da:Addr}{fp:List Addr}{tn':Nat->Heap->Prop}{J:It}{ts:List T}{Q0:T->Prop}{τ4:List Slot}
  (hg':JG X' target g) (hu':JTs X' ifs ut) (he':JE X' elt we) (eP:X'.prog=X.prog) (eW:X'.w=X.w) (eK:X'.K=X.K) (eA:X'.A=X.A) (eH:X'.H₀=H2) (eE:X'.xe=fun _ _=>False) (eC:X'.calm=true) (eFs:X'.fs=frs X.stack) (eEx:X'.ex=Da::fp) (eS:X'.s₀.heap=h3) (eOs:X'.s₀.os=s2.os) (ePn:X'.pn=[])
  (hCn:X'.env.locals=Da + 1) (pushK:∀b o,s2.heap.get? b=some o->h3.get? b=some o) (hDa:s2.heap.objs.size=Da) (I2:Inv X pins σ H2 s2) (f2:∀b∈fp,FpOk X pins H2 b) (Tn:Turn X.prog X.w X.K target J fp it tn') (ne:Da∉fp) (S2:Same H H2) (wk:WkS X.K J ts H2) (hlen:ts.length<=1000)
  (J4:Inv X' [] σ4 H2 s4) (R4:RepSt X'.K X'.H₀ H2 σ4 τ4) (st4:tn' 0 s4.heap) (fr4:∀b∈Da::fp,H2 b=none) (hDat:s4.heap.get? Da=some {cls:=.type "list", dict:=none,data:=.seq ([]:List Value).toArray}) (q:compT g ut we ts [] τ4 fun rs=>Q0 (.lst rs))
  (hfp:∀H6:Hp,H6 X'.env.locals=none->FpOk X pins H6 X'.env.locals)
  (hend:∀(s6:Shared)(H6:Hp)(D C:Addr)(m6:Str->Option Value)(t:T)(f:Flow),Inv X pins σ H6 s6->FpOk X pins H6 C->s6.heap.Ns C m6->Same H H6->Rep X.K H6 t (.ref D)->Q0 t->(∃(H5:Hp) (o:Obj) (vs:List V) (ts:List T),H6=upd H5 D (.frz o (.lst vs))/\H5 D=none/\Same H H5/\t=.lst ts/\Reps X.K H5 ts vs)->compPost (model X.prog X.w) X.A X.xe use QQ (.ref D) C (.ok f) s6) :
  codeAny (model X.prog X.w) X.A (.compLoop (.ListComp elt [⟨target,iter,ifs,0⟩] scope pos) 0 (.ref it) (.ref Da) X'.env) (compPost (model X.prog X.w) X.A X.xe use QQ (.ref Da) X'.env.locals) s4:=by
 have stat:∀{H':Hp}{b:Addr},b∈Da::fp->H' b=none->FpOk X' [] H' b:=fun {H' b} hb hn=>by
  have o:=(J4.ok.exf b (by rw[eEx];exact hb))
  refine⟨hn,o.1,J4.ok.exfs b (by rw[eEx];exact hb),.inl (by rw[eEx];exact hb),o.2,fun p hp=>?_⟩
  rw[ePn]at hp
  exact absurd (show p∈([]:List (Addr×Obj)) from hp) (by simp)
 refine codeAny_compLoop_any (CompInv X.K X' ts g ut we Q0 tn' Da fp) ?_ ts.length
  ⟨0,_,H2,_,[],[],[],0,by simp,Nat.zero_le _,J4,st4,fr4,R4,hDat,.nil,reps_nil.mpr rfl,Nat.le_refl _,by simpa using q⟩
 rintro n s5 ⟨i,σ5,H5,τ5,acc,vs,its,k5,rfl,hi5,I5,st5,fr5,R5,hD5,rv5,ra5,hl5,q5⟩
 have K5:Same H2 H5:=by
  have:=R5.same
  rwa [eH]at this
 obtain⟨wi5,ws5⟩:=wk H5 K5
 have fp5:∀b∈fp,FpOk X' [] H5 b:=fun b hb=>stat (List.mem_cons_of_mem _ hb) (fr5 b (List.mem_cons_of_mem _ hb))
 rw[← eA]
 by_cases hlt:i < ts.length
 ·have ei:ts[i]?=some ts[i]:=List.getElem?_eq_getElem hlt
  obtain⟨go,yl⟩:=wi5 i _ ei
  rw[List.drop_eq_getElem_cons hlt]at q5
  have ID:Inv X' ([]++pinsAt [Da] s5.heap) σ5 H5 s5:=I5.pinned (fp:=[Da]) (fun b hb=>stat (by rw[List.mem_singleton.mp hb];exact List.mem_cons_self) (fr5 b (by rw[List.mem_singleton.mp hb];exact List.mem_cons_self))) fun b hb=>by
   rw[List.mem_singleton.mp hb]
   exact⟨_,hD5,fun v z=>(by cases z)⟩
  have fpp:∀{H':Hp},(∀b∈fp,H' b=none)->∀b∈fp,FpOk X' ([]++pinsAt [Da] s5.heap) H' b:=fun hn b hb=>by
   obtain⟨g1,g2,g3,g4,g5,g6⟩:=stat (H':=_) (List.mem_cons_of_mem _ hb) (hn b hb)
   refine⟨g1,g2,g3,g4,g5,fun p hp=>?_⟩
   rcases List.mem_append.mp hp with z|z
   ·rw[ePn]at z;exact absurd (show p∈([]:List (Addr×Obj)) from z) (by simp)
   ·rw[List.nil_append]at z
    obtain⟨z1,_⟩:=of_pinsAt z
    rw[List.mem_singleton.mp z1]
    intro e
    exact ne (by rw[e];exact hb)
  have frf:∀b∈fp,H5 b=none:=fun b hb=>fr5 b (List.mem_cons_of_mem _ hb)
  refine wpAny_mono (Tn.item X' eP eW eK eC i _ s5 σ5 H5 (fun _ _=>False) ID (fpp frf) st5 go) (fun r s6 h6=>?_) fun _ _ z=>z
  obtain⟨u,rfl,h6⟩:=h6
  refine wpAny_mono h6 (fun _ s7 h7=>?_) fun _ _ z=>z
  obtain⟨x,H7,I7,rx,y7,st7,fr7⟩:=h7
  obtain⟨S7,r7⟩:=yl x H7 y7
  have I7p:=I7.pinned (fpp fr7) (Tn.obj _ _ st7)
  have R7:=R5.mono S7
  have g7:=hg' _ s7 σ5 H7 x u (fun σ8 H8=>∃τ8,Same H7 H8/\RepSt X'.K X'.H₀ H8 σ8 τ8/\ut τ8 fun k=>(k=true->we τ8 fun t=>compT g ut we (ts.drop (i + 1)) (acc++[t]) τ8 fun rs=>Q0 (.lst rs))/\(k=false->compT g ut we (ts.drop (i + 1)) acc τ8 fun rs=>Q0 (.lst rs))) I7p rx
   ⟨ts[i],τ5,_,R7,(by rw[eK];exact r7),q5,fun τ8 σ8 H8 S8 R8 q8=>⟨τ8,S8,R8,q8⟩⟩
  rw[eE,eP,eW]at g7
  refine wpAny_mono g7 (fun _ s8 h8=>?_) fun _ _ z=>z
  obtain⟨σ8,H8,I8,τ8,S8,R8,q8⟩:=h8
  have u8:=hu' _ s8 σ8 H8 (fun k H9=>Same H8 H9/\((k=true->we τ8 fun t=>compT g ut we (ts.drop (i + 1)) (acc++[t]) τ8 fun rs=>Q0 (.lst rs))/\(k=false->compT g ut we (ts.drop (i + 1)) acc τ8 fun rs=>Q0 (.lst rs)))) I8 ⟨τ8,_,R8,q8,fun k H9 S9 q9=>⟨S9,q9⟩⟩
  rw[eE,eP,eW]at u8
  refine wpAny_mono u8 (fun k s9 h9=>?_) fun _ _ z=>z
  obtain⟨H9,I9,S9,q9⟩:=h9
  have R9:=R8.mono S9
  have pinD:∀{s':Shared}{σ':St}{H':Hp},Inv X' (([]++pinsAt [Da] s5.heap)++pinsAt fp s7.heap) σ' H' s'->s'.heap.get? Da=some {cls:=.type "list", dict:=none,data:=.seq its.toArray k5}/\H' Da=none:=fun I'=>by
   have z:=I'.pin (Da,_) (List.mem_append_right _ (List.mem_append_left _ (by rw[List.nil_append];exact mem_pinsAt (List.mem_singleton.mpr rfl) hD5)))
   exact⟨z.1,z.2.1⟩
  have pinF:∀{s':Shared}{σ':St}{H':Hp},Inv X' (([]++pinsAt [Da] s5.heap)++pinsAt fp s7.heap) σ' H' s'->tn' (i + 1) s'.heap/\∀b∈fp,H' b=none:=fun {s' σ' H'} I'=>by
   refine⟨Tn.keep _ _ _ st7 fun b hb o e=>(I'.pin (b,o) (List.mem_append_right _ (List.mem_append_right _ (mem_pinsAt hb e)))).1,fun b hb=>?_⟩
   obtain⟨o,e,d⟩:=Tn.obj _ _ st7 b hb
   exact(I'.pin (b,o) (List.mem_append_right _ (List.mem_append_right _ (mem_pinsAt hb e)))).2.1
  have frD:∀{H':Hp},H' Da=none->(∀b∈fp,H' b=none)->∀b∈Da::fp,H' b=none:=fun h1 h2 b hb=>by
   rcases List.mem_cons.mp hb with rfl|hb
   ·exact h1
   ·exact h2 b hb
  have unp:∀{s':Shared}{σ':St}{H':Hp},Inv X' (([]++pinsAt [Da] s5.heap)++pinsAt fp s7.heap) σ' H' s'->Inv X' [] σ' H' s':=fun I'=>I'.pins_of fun p hp=>absurd hp (by simp)
  cases k with
  | false =>
   rw[if_neg Bool.false_ne_true]
   refine⟨ts.length - (i + 1),by omega,i + 1,σ8,H9,τ8,acc,vs,its,k5,rfl,hlt,unp I9,(pinF I9).1,frD (pinD I9).2 (pinF I9).2,R9,(pinD I9).1,rv5,ra5.kp (.of (S7.trans (S8.trans S9))),by omega,q9.2 rfl⟩
  | true =>
   rw[if_pos rfl]
   have e9:=he' _ s9 σ8 H9 (fun v H10=>∃t,Same H9 H10/\Rep X'.K H10 t v/\compT g ut we (ts.drop (i + 1)) (acc++[t]) τ8 fun rs=>Q0 (.lst rs)) I9 ⟨τ8,_,R9,q9.1 rfl,fun t v H10 S10 r10 q10=>⟨t,S10,r10,q10⟩⟩
   rw[eE,eP,eW]at e9
   refine wpAny_mono e9 (fun y s10 h10=>?_) fun _ _ z=>z
   obtain⟨v,H10,I10,rv,t,S10,r10,q10⟩:=h10
   have hlen5:its.length<=1000:=by
    have e1:=rv5.length
    have e2:=ra5.length
    omega
   refine wpAny_list_append_plain (hsz:=by rw[List.size_toArray];exact few hlen5) ⟨k5,(pinD I10).1⟩ fun h11 hl11 hs11=>?_
   obtain⟨k11,hl11⟩:=hl11
   have I11:Inv X' [] σ8 H10 {s10 with heap:=h11}:=by
    obtain⟨g1,g2,g3,g4,g5,g6⟩:=stat (H':=H10) List.mem_cons_self (pinD I10).2
    exact(unp I10).turned (t':=s10.toks) (it:=Da) (fun b o hb e=>(hs11.2 b hb).trans e) g1 g2 g4 g5 g6
   have st11:tn' (i + 1) h11:=Tn.keep _ _ _ (pinF I10).1 fun b hb o e=>(hs11.2 b (fun z=>ne (by rw[← z];exact hb))).trans e
   refine⟨ts.length - (i + 1),by omega,i + 1,σ8,H10,τ8,acc++[t],vs++[v],its++[y],k11,rfl,hlt,I11,st11,frD (pinD I10).2 (pinF I10).2,R9.mono S10,?_,rv5.append (.cons rv .nil),(ra5.kp (.of (S7.trans (S8.trans (S9.trans S10))))).append (.one (by rw[← eK];exact r10)),by simp;omega,q10⟩
   have ea:(its++[y]).toArray=its.toArray.push y:=by simp
   rw[ea]
   exact hl11
 ·have e:i=ts.length:=by omega
  subst e
  rw[List.drop_length]at q5
  have q5':Q0 (.lst acc):=q5
  refine wpAny_mono (Tn.done X' eP eW eK eC ts.length ([]++pinsAt [Da] s5.heap) s5 σ5 H5 (fun _ _=>False) ?_ ?_ st5 ws5) (fun r s6 h6=>?_) fun _ _ z=>z
  ·exact I5.pinned (fp:=[Da]) (fun b hb=>stat (by rw[List.mem_singleton.mp hb];exact List.mem_cons_self) (fr5 b (by rw[List.mem_singleton.mp hb];exact List.mem_cons_self))) fun b hb=>by
    rw[List.mem_singleton.mp hb]
    exact⟨_,hD5,fun v z=>(by cases z)⟩
  ·intro b hb
   obtain⟨g1,g2,g3,g4,g5,g6⟩:=stat (H':=H5) (List.mem_cons_of_mem _ hb) (fr5 b (List.mem_cons_of_mem _ hb))
   refine⟨g1,g2,g3,g4,g5,fun p hp=>?_⟩
   rcases List.mem_append.mp hp with z|z
   ·rw[ePn]at z;exact absurd (show p∈([]:List (Addr×Obj)) from z) (by simp)
   ·rw[List.nil_append]at z
    obtain⟨z1,_⟩:=of_pinsAt z
    rw[List.mem_singleton.mp z1]
    intro e
    exact ne (by rw[e];exact hb)
  obtain⟨rfl,I6⟩:=h6
  have z6:=I6.pin (Da,_) (List.mem_append_right _ (by rw[List.nil_append];exact mem_pinsAt (List.mem_singleton.mpr rfl) hD5))
  obtain⟨m6,hn6,_⟩:=I6.loc
  have hz:vs.length<=sizeLine:=by rw[ra5.length];exact few (by omega)
  have fin:=comp_end eP eW eFs eEx eH eS eOs hCn pushK hDa I2 f2 I6 (fr5 _ List.mem_cons_self) z6.1 rv5 hz
  have S5:Same H2 H5:=by have:=R5.same;rwa [eH]at this
  have S6:Same H2 (upd H5 Da (.frz {cls:=.type "list", dict:=none,data:=.seq its.toArray k5} (.lst vs))):=S5.trans (same_new (fr5 _ List.mem_cons_self) _)
  have hfpC:=hfp _ (show (upd H5 Da (.frz {cls:=.type "list", dict:=none,data:=.seq its.toArray k5} (.lst vs))) X'.env.locals=none by rw[upd_ne (by rw[hCn];exact Nat.succ_ne_self _)];exact I6.free)
  show compPost (model X.prog X.w) X'.A X.xe use QQ (.ref Da) X'.env.locals (.ok .next) s6
  rw[eA]
  exact hend s6 _ _ _ m6 (.lst acc) _ fin hfpC hn6 (S2.trans S6) (rep_lst.mpr ⟨_,vs,rfl,.inl ⟨_,upd_same⟩,ra5.kp (.of (same_new (fr5 _ List.mem_cons_self) _))⟩) q5' ⟨H5,_,vs,acc,rfl,fr5 _ List.mem_cons_self,S2.trans S5,rfl,ra5⟩
theorem comp_core{elt target iter:Expr}{ifs:List Expr}{scope sc0:Scope}{tn N0:List Str}{fr:List (Str×Nat)}{wi:WI}{g:TGt}{ut:WT}{we:WE}(hsc:X.env.scope=sc0)(hN0:X.N=N0)(hc:X.calm=true)
  (hi:JIc X target iter wi) (hk:scope.kind=.function) (hk0:sc0.kind=.function)
  (hnames:(scope.names.all fun x=>x.2 != .local||scope.names.lookup x.1==some .local)=true) (hcell:(scope.names.all fun x=>x.2 != .cell)=true)
  (hfree:(scope.names.all fun x=>x.2 != .free||sc0.names.lookup x.1==some .cell)=true)
  (hfr:(fr.all fun p=>(sc0.names.lookup p.1==some .cell&&scope.names.lookup p.1==some .free)&&N0[p.2]?==some p.1)=true)
  (hg:∀cl C s3 H2 ex,JG (compCx X (tn++fr.map (·.1)) scope cl C s3 H2 ex) target g) (hu:∀cl C s3 H2 ex,JTs (compCx X (tn++fr.map (·.1)) scope cl C s3 H2 ex) ifs ut)
  (he:∀cl C s3 H2 ex,JE (compCx X (tn++fr.map (·.1)) scope cl C s3 H2 ex) elt we)
  (hs:∀x,foldedSetIterable iter X.env x=pure x) {pos':Pos} {pins:List (Addr×Obj)} {s:Shared} {σ:St} {H:Hp} {QQ:Value->Shared->Prop} {use:Option (Value->Sem Unit)} (I:Inv X pins σ H s)
  {τ:List Slot} {Q0:T->Prop} (R0:RepSt X.K X.H₀ H σ τ) (hw:wComp wi g ut we tn.length (fr.map (·.2)) τ Q0)
  (hend:∀(s6:Shared)(H6:Hp)(D C:Addr)(m6:Str->Option Value)(t:T)(f:Flow),Inv X pins σ H6 s6->FpOk X pins H6 C->s6.heap.Ns C m6->Same H H6->Rep X.K H6 t (.ref D)->Q0 t->(∃(H5:Hp) (o:Obj) (vs:List V) (ts:List T),H6=upd H5 D (.frz o (.lst vs))/\H5 D=none/\Same H H5/\t=.lst ts/\Reps X.K H5 ts vs)->compPost (model X.prog X.w) X.A X.xe use QQ (.ref D) C (.ok f) s6) :
  wpAny (model X.prog X.w) X.A (comprehension (.ListComp elt [⟨target,iter,ifs,0⟩] scope pos) scope X.env pos' (newList []) false (eval iter X.env) use) QQ X.xe s:=by
 have hkindOf:∀x,X.env.kindOf x=sc0.names.lookup x:=fun x=>by show X.env.scope.names.lookup x=_;rw[hsc]
 have hfree':∀x∈scope.names,x.2=.free->X.env.kindOf x.1=some .cell:=fun x hx hf=>by
  have:=List.all_eq_true.mp hfree x hx
  rw[hkindOf]
  simpa [hf] using this
 have hcell':∀x∈scope.names,x.2 ≠ .cell:=fun x hx=>by
  have:=List.all_eq_true.mp hcell x hx
  simpa using this
 have hfN:∀p∈fr,X.N[p.2]?=some p.1:=fun p hp=>by
  have:=List.all_eq_true.mp hfr p hp
  rw[hN0]
  simp only[Bool.and_eq_true,beq_iff_eq]at this
  exact this.2
 have hfr':∀p∈fr,X.env.kindOf p.1=some .cell/\scope.names.lookup p.1=some .free:=fun p hp=>by
  have:=List.all_eq_true.mp hfr p hp
  rw[hkindOf]
  simp only[Bool.and_eq_true,beq_iff_eq]at this
  exact this.1
 obtain⟨cl,hclos,p1,p3⟩:=closureFor_of (scope:=scope) (env:=X.env) fun x hx hf=>I.ok.has x.1 (.inl (hfree' x hx hf))
 refine wpAny_comprehension_free (use:=use) rfl hs hclos hk (fun x hx hl=>?_) ?_
 ·have:=List.all_eq_true.mp hnames x hx
  simpa [hl] using this
 refine thn (hi pins s σ H (fun J H1=>∃ts,Same H H1/\WkS X.K J ts H1/\ts.length<=1000/\compT g ut we ts [] (List.replicate tn.length Slot.no++(fr.map (·.2)).map fun i=>hide (sget τ i)) fun rs=>Q0 (.lst rs)) I
  ⟨τ,_,R0,hw,fun ts J H' S wk q=>⟨ts,S,wk,q.1,q.2⟩⟩) fun v s1 h1=>thn h1 fun itv s2 h2=>?_
 obtain⟨it,fp,tn',J,H2,rfl,I2,Tn,st2,f2,ts,S2,wk,hlen,q⟩:=h2
 refine wpAny_newObj_type (wpAny_newFunctionEnv hcell' (by intro y hy;simp at hy) (fun h4 hns hsb=>?_) hk)
 dsimp only at hns hsb ⊢
 have hDn:H2 s2.heap.objs.size=none:=I2.hok.fresh (Nat.le_refl _)
 have I3:Inv X pins σ H2 {s2 with heap:=s2.heap.push {cls:=.type "list", dict:=none,data:=.seq ([]:List Value).toArray} }:=I2.kept (t':=s2.toks) fun b u e=>Heap.get?_push_of_some _ e
 have hsz:(s2.heap.push {cls:=.type "list", dict:=none,data:=.seq ([]:List Value).toArray}).objs.size=s2.heap.objs.size + 1:=Heap.size_push ..
 have hkeep:∀b o,(s2.heap.push {cls:=.type "list", dict:=none,data:=.seq ([]:List Value).toArray}).get? b=some o->h4.get? b=some o:=fun b o e=>hsb.extBut b o (Nat.ne_of_lt (Heap.lt_size e)) (Heap.get?_push_of_some _ e)
 have hDat:h4.get? s2.heap.objs.size=some {cls:=.type "list", dict:=none,data:=.seq ([]:List Value).toArray}:=hkeep _ _ (Heap.get?_push_size _ rfl)
 have fpD:∀b∈s2.heap.objs.size::fp,FpOk X pins H2 b:=fun b hb=>by
  rcases List.mem_cons.mp hb with rfl|hb
  ·exact I2.fpOk (Nat.le_refl _) hDn
  ·exact f2 b hb
 have ltD:∀b∈fp,b < s2.heap.objs.size:=fun b hb=>by
  obtain⟨o,e,_⟩:=Tn.obj _ _ st2 b hb
  exact Heap.lt_size e
 have ltD':∀b∈s2.heap.objs.size::fp,b < (s2.heap.push {cls:=.type "list", dict:=none,data:=.seq ([]:List Value).toArray}).objs.size:=fun b hb=>by
  rw[hsz]
  rcases List.mem_cons.mp hb with rfl|hb
  ·exact Nat.lt_succ_self _
  ·exact Nat.lt_succ_of_lt (ltD b hb)
 have hhas:∀x,((relabel scope X.env).names.lookup x=some .cell∨(relabel scope X.env).names.lookup x=some .free)->∃c,cl.lookup x=some c:=fun x hx=>by
  have z:∃k',(relabel scope X.env).names.lookup x=some k'/\(k'=.cell∨k'=.free):=by
   rcases hx with hx|hx
   ·exact⟨_,hx,.inl rfl⟩
   ·exact⟨_,hx,.inr rfl⟩
  obtain⟨k',e,hk'⟩:=z
  obtain⟨k,hm,hkk⟩:=relabel_mem e
  have hf:k=.free:=by
   rcases hkk with rfl|⟨h,_⟩
   ·rcases hk' with rfl|rfl
    ·exact absurd rfl (hcell' _ hm)
    ·rfl
   ·exact h
  subst hf
  exact p3 (x,.free) hm rfl
 obtain⟨m3,hn3,hl3⟩:=I3.loc
 have J4:Inv (compCx X (tn++fr.map (·.1)) scope cl (s2.heap.push {cls:=.type "list", dict:=none,data:=.seq ([]:List Value).toArray}).objs.size {s2 with heap:=s2.heap.push {cls:=.type "list", dict:=none,data:=.seq ([]:List Value).toArray} } H2 (s2.heap.objs.size::fp)) []
   (slotsOf σ tn.length fr) H2 {s2 with heap:=h4,toks:=s2.toks + ([]:List (Str×Value)).length}:=by
  refine comp_start I3 hc hk (Nat.le_refl _) p1 hhas fpD ltD' rfl I2.bare hkeep hns (fun i x v h1 h2=>?_) (by simp[slotsOf])
  unfold slotsOf at h2
  by_cases hi:i < tn.length
  ·rw[List.getElem?_append_left (by simpa using hi),List.getElem?_replicate]at h2
   split at h2<;>cases h2
  ·rw [List.getElem?_append_right (by simpa using hi),List.length_replicate,List.getElem?_map]at h2
   rw[List.getElem?_append_right (by omega),List.getElem?_map]at h1
   cases ep:fr[i - tn.length]? with
   | none=>rw[ep]at h1;cases h1
   | some p =>
    rw[ep]at h1 h2
    have h1':p.1=x:=by simpa using h1
    have h2':(σ[p.2]?).getD none=some v:=by simpa using h2
    have h2'':σ[p.2]?=some (some v):=by
     cases e:σ[p.2]? with
     | none=>rw[e]at h2';cases h2'
     | some z=>rw[e]at h2';exact congrArg some h2'
    have hp:p∈fr:=List.mem_of_getElem? ep
    obtain⟨k1,k2⟩:=hfr' p hp
    subst h1'
    obtain⟨u,ru,lk⟩:=hl3 p.2 p.1 v (hfN p hp) h2'' (.inr (.inl k1))
    refine⟨u,ru,.inr ⟨.inl ?_,?_⟩⟩
    ·exact relabel_free (by rw[hsc];exact hk0) k2 k1
    ·rcases lk with ⟨z,_⟩|⟨_,c,e,o,ho,hd⟩
     ·rw[k1]at z;cases z
     ·obtain⟨c',e'⟩:=p3 (p.1,.free) (PySem.mem_of_lookup k2) rfl
      have:=p1 _ _ e'
      rw[e]at this
      cases this
      exact⟨c,e',o,hkeep c o ho,hd⟩
 have R4:RepSt X.K H2 H2 (slotsOf σ tn.length fr) (List.replicate tn.length Slot.no++(fr.map (·.2)).map fun i=>hide (sget τ i)):=repSt_comp tn.length fr R0 S2
 have ne:(s2.heap.objs.size:Addr)∉fp:=fun z=>absurd (ltD _ z) (Nat.lt_irrefl _)
 have st4:tn' 0 h4:=Tn.keep _ _ _ st2 fun b hb o e=>hkeep b o (Heap.get?_push_of_some _ e)
 have lp:=comp_loop (scope:=scope) (H2:=H2) (s2:=s2) (X:=X) (X':=compCx X (tn++fr.map (·.1)) scope cl (s2.heap.push {cls:=.type "list", dict:=none,data:=.seq ([]:List Value).toArray}).objs.size {s2 with heap:=s2.heap.push {cls:=.type "list", dict:=none,data:=.seq ([]:List Value).toArray} } H2 (s2.heap.objs.size::fp)) (h3:=s2.heap.push {cls:=.type "list", dict:=none,data:=.seq ([]:List Value).toArray}) (pins:=pins) (s4:={s2 with heap:=h4,toks:=s2.toks + ([]:List (Str×Value)).length}) (use:=use) (QQ:=QQ) (iter:=iter) (pos:=pos) (hg _ _ _ _ _) (hu _ _ _ _ _) (he _ _ _ _ _) rfl rfl rfl rfl rfl rfl rfl rfl rfl rfl rfl rfl hsz (fun b o e=>Heap.get?_push_of_some _ e) rfl I2 f2 Tn ne S2 wk hlen J4 R4 st4 (fun b hb=>(fpD b hb).1) hDat q (fun H6 h=>I3.fpOk (Nat.le_refl _) h) hend
 exact codeAny_compStart_list lp (Tn.self _ 0 _ _ _ st4 lp)
theorem jcomp{elt target iter:Expr}{ifs:List Expr}{scope sc0:Scope}{tn N0:List Str}{fr:List (Str×Nat)}{wi:WI}{g:TGt}{ut:WT}{we:WE}(hsc:X.env.scope=sc0)(hN0:X.N=N0)(hc:X.calm=true)
  (hi:JI X target iter wi) (hk:scope.kind=.function) (hk0:sc0.kind=.function)
  (hnames:(scope.names.all fun x=>x.2 != .local||scope.names.lookup x.1==some .local)=true) (hcell:(scope.names.all fun x=>x.2 != .cell)=true)
  (hfree:(scope.names.all fun x=>x.2 != .free||sc0.names.lookup x.1==some .cell)=true)
  (hfr:(fr.all fun p=>(sc0.names.lookup p.1==some .cell&&scope.names.lookup p.1==some .free)&&N0[p.2]?==some p.1)=true)
  (hg:∀cl C s3 H2 ex,JG (compCx X (tn++fr.map (·.1)) scope cl C s3 H2 ex) target g) (hu:∀cl C s3 H2 ex,JTs (compCx X (tn++fr.map (·.1)) scope cl C s3 H2 ex) ifs ut)
  (he:∀cl C s3 H2 ex,JE (compCx X (tn++fr.map (·.1)) scope cl C s3 H2 ex) elt we)
  (hs:∀x,foldedSetIterable iter X.env x=pure x:=by intro _;rfl):JE X (.ListComp elt [⟨target,iter,ifs,0⟩] scope pos) (wComp wi g ut we tn.length (fr.map (·.2))):=by
 intro pins s σ H Q I hw
 obtain⟨τ,Q0,R0,hw,kk⟩:=hw
 rw[eval_ListComp]
 refine comp_core hsc hN0 hc hi.c hk hk0 hnames hcell hfree hfr hg hu he hs (pos':=_) (use:=none) I R0 hw fun s6 H6 D C m6 t f I6 fp hn S r q _=>?_
 refine⟨m6,hn,fun h7 hs7=>?_⟩
 obtain⟨g1,g2,g3,g4,g5,g6⟩:=fp
 exact⟨.ref D,H6,I6.turned (t':=s6.toks) (it:=C) (fun b o hb e=>(hs7.2 b hb).trans e) g1 g2 g4 g5 g6,rfl,kk _ _ _ S r q⟩
theorem jsetc{elt target iter:Expr}{ifs:List Expr}{scope sc0:Scope}{tn N0:List Str}{fr:List (Str×Nat)}{wi:WI}{g:TGt}{ut:WT}{we:WE}{i:Nat}{x:Str}{pos' spos:Pos}(hN:X.N.Nodup)(hiN:X.N[i]?=some x)(hx:Loc X.env.scope x)
  (hsc:X.env.scope=sc0) (hN0:X.N=N0) (hc:X.calm=true)
  (hi:JI X target iter wi) (hk:scope.kind=.function) (hk0:sc0.kind=.function)
  (hnames:(scope.names.all fun x=>x.2 != .local||scope.names.lookup x.1==some .local)=true) (hcell:(scope.names.all fun x=>x.2 != .cell)=true)
  (hfree:(scope.names.all fun x=>x.2 != .free||sc0.names.lookup x.1==some .cell)=true)
  (hfr:(fr.all fun p=>(sc0.names.lookup p.1==some .cell&&scope.names.lookup p.1==some .free)&&N0[p.2]?==some p.1)=true)
  (hg:∀cl C s3 H2 ex,JG (compCx X (tn++fr.map (·.1)) scope cl C s3 H2 ex) target g) (hu:∀cl C s3 H2 ex,JTs (compCx X (tn++fr.map (·.1)) scope cl C s3 H2 ex) ifs ut)
  (he:∀cl C s3 H2 ex,JE (compCx X (tn++fr.map (·.1)) scope cl C s3 H2 ex) elt we)
  (hs:∀x,foldedSetIterable iter X.env x=pure x:=by intro _;rfl)
  (hsw:swapsWith (.ListComp elt [⟨target,iter,ifs,0⟩] scope pos) (some (.Name x pos')) spos.line X.env=pure true:=by rfl)
  (hf:X.fn x=true∨X.env.scope.names.lookup x=some .local:=by first|exact .inl rfl|exact .inr rfl|assumption) :
  JS X (.Assign [.Name x pos'] (.ListComp elt [⟨target,iter,ifs,0⟩] scope pos) spos) (sSet i (wComp wi g ut we tn.length (fr.map (·.2)))):=by
 intro pins s σ H D I ⟨τ,D0,R0,hw,k,_⟩
 rw[exec_Assign_Name_used _ _ _ _ hsw]
 refine wpAny_bind (wpAny_standAt (wpAny_bind ?_))
 rw[arm_evalThenUse_ListComp]
 dsimp only
 refine wpAny_bind (wpAny_mono (comp_core (QQ:=fun _ s'=>SP X pins D .next s') hsc hN0 hc hi.c hk hk0 hnames hcell hfree hfr hg hu he hs (use:=some (assign (.Name x pos') X.env)) I R0 hw fun s6 H6 Da C m6 t f I6 fp hn S r q _=>?_) (fun _ s' h=>wpAny_pure (wpAny_pure h)) fun _ _ z=>z)
 obtain⟨oC,es,ep,hoC,hdC,hrC⟩:=id hn
 have Ip:=I6.pinned (fp:=[C]) (fun b hb=>by rw[List.mem_singleton.mp hb];exact fp) fun b hb=>by
  rw[List.mem_singleton.mp hb]
  exact⟨oC,hoC,fun v z=>by rw[hdC]at z;cases z⟩
 have gn:=pg_name (pos:=pos') hN hiN hx hf _ s6 σ H6 (.ref Da) (.ref Da) (fun σ' H'=>σ'=σ.set i (some (.ref Da))/\H'=H6) Ip rfl ⟨rfl,rfl⟩
 refine wpAny_mono gn (fun _ s7 h7=>?_) fun _ _ z=>z
 obtain⟨σ7,H7,I7,rfl,rfl⟩:=h7
 have pC:=(I7.pin (C,oC) (List.mem_append_right _ (List.mem_append_right _ (mem_pinsAt (List.mem_singleton.mpr rfl) hoC)))).1
 refine⟨m6,⟨oC,es,ep,pC,hdC,hrC⟩,fun h8 hs8=>?_⟩
 obtain⟨g1,g2,g3,g4,g5,g6⟩:=fp
 have I8:Inv X pins (σ.set i (some (.ref Da))) H7 s7:=I7.pins_of fun p hp=>I7.pin p (List.mem_append_right _ (List.mem_append_left _ hp))
 exact⟨_,H7,I8.turned (t':=s7.toks) (it:=C) (fun b o hb e=>(hs8.2 b hb).trans e) g1 g2 g4 g5 g6,k _ _ H7 (.of S) ((R0.mono S).put r) q⟩
end
end TL
end
section
namespace TL
open PySem PySem.Spec PyProof.Rows L2
def SeqIt(h:Heap)(it l:Addr)(k:Nat)(xs:Array Value):Prop:=(h.IsListIter it l k/\h.IsList l xs)∨(h.IsTupleIter it l k/\h.IsTuple l xs)
theorem SeqIt.keep{h h':Heap}{it l:Addr}{k:Nat}{xs:Array Value}(x:SeqIt h it l k xs)(q:∀b o,b=it∨b=l->h.get? b=some o->h'.get? b=some o):SeqIt h' it l k xs:=by
 rcases x with ⟨⟨o,e,r⟩,p,e2,r2⟩|⟨⟨o,e,r⟩,p,e2,r2⟩
 ·exact .inl ⟨⟨o,q _ _ (.inl rfl) e,r⟩,p,q _ _ (.inr rfl) e2,r2⟩
 ·exact .inr ⟨⟨o,q _ _ (.inl rfl) e,r⟩,p,q _ _ (.inr rfl) e2,r2⟩
theorem SeqIt.lt{h:Heap}{it l:Addr}{k:Nat}{xs:Array Value}(x:SeqIt h it l k xs):it < h.objs.size/\l < h.objs.size:=by
 rcases x with ⟨⟨o,e,_⟩,p,e2,_⟩|⟨⟨o,e,_⟩,p,e2,_⟩
 ·exact⟨Heap.lt_size e,Heap.lt_size e2⟩
 ·exact⟨Heap.lt_size e,Heap.lt_size e2⟩
theorem SeqIt.ne{h:Heap}{it l:Addr}{k:Nat}{xs:Array Value}(x:SeqIt h it l k xs):l≠it:=by
 rintro rfl
 rcases x with ⟨⟨o,e,c,d⟩,p,e2,c2,n,d2⟩|⟨⟨o,e,c,d⟩,p,e2,c2,n,d2⟩
 ·rw[e]at e2;cases e2;rw[d]at d2;cases d2
 ·rw[e]at e2;cases e2;rw[d]at d2;cases d2
theorem SeqIt.obj{h:Heap}{it l:Addr}{k:Nat}{xs:Array Value}(x:SeqIt h it l k xs):∃o,h.get? it=some o/\∀v,o.data ≠ .cell v:=by
 rcases x with ⟨⟨o,e,c,d⟩,_⟩|⟨⟨o,e,c,d⟩,_⟩
 ·exact⟨o,e,fun v z=>by rw[d]at z;cases z⟩
 ·exact⟨o,e,fun v z=>by rw[d]at z;cases z⟩
section
variable {prog:Program} {w:World} {A:Around} {E:Value->Shared->Prop} {s:Shared}
theorem nextOf_tup{it t:Addr}{i:Nat}{xs:Array Value}{x:Value}{Q:Value->Shared->Prop}(hit:s.heap.IsTupleIter it t i)(ht:s.heap.IsTuple t xs)(hx:xs[i]?=some x)
  (hQ:∀g,g.IsTupleIter it t (i + 1)->Heap.SameBut it s.heap g->Q x {s with heap:=g}):wpAny (model prog w) A (Builtin.SmallTypes.nextOf (.ref it)) Q E s:=by
 have hT:=hit.typeIs
 obtain⟨oi,e1,e2,e3⟩:=hit
 obtain⟨ot,f1,_,fn,f2⟩:=ht
 unfold Builtin.SmallTypes.nextOf
 refine wpAny_bind (wpAny_callSpecial?_slot (name:=Str.ofString "__next__") hT F.slot_tuple_iterator_next (wpAny_call_entry F.slot_tuple_iterator_next hT F.entry_tuple_iterator_next ?_ (F.args_tuple_iterator_next_1 _)))
 show wpAny (model prog w) _ (field (.ref it) 0 >>= _) _ _ s
 refine wpAny_bind (wpAny_field e1 e3 (x:=.ref t) rfl ?_)
 show wpAny (model prog w) _ (if (Value.ref t==Value.none)=true then _ else _) _ _ s
 rw[if_neg (show ¬ (Value.ref t==Value.none)=true from Bool.false_ne_true)]
 show wpAny (model prog w) _ (field (.ref it) 1 >>= _) _ _ s
 refine wpAny_bind (wpAny_field e1 e3 (x:=.int i 0) rfl ?_)
 show wpAny (model prog w) _ (seqItems? (.ref t) >>= _) _ _ s
 refine wpAny_bind (wpAny_seqItems f1 f2 ?_)
 simp only[hx,Int.toNat_natCast]
 refine wpAny_bind (wpAny_setField e1 e3 (by simp) (wpAny_pure ⟨x,rfl,wpAny_pure (hQ _ ⟨_,Heap.get?_update_self _ e1 (Obj.isFreed_of_fields (Obj.data_mapFields e3 _)),(Obj.cls_mapFields ..).trans e2,?_⟩ (Heap.SameBut.update ..))⟩))
 rw[Obj.data_mapFields e3]
 simp[rawInt]
theorem nextOf_tup_end{it t:Addr}{i:Nat}{xs:Array Value}{Q:Value->Shared->Prop}(hh:A.handled=none)(hit:s.heap.IsTupleIter it t i)(ht:s.heap.IsTuple t xs)(hx:xs[i]?=none)
  (hE:∀g e,Heap.ExtBut it s.heap g->(∃o,g.get? e=some o/\o.cls=.type "StopIteration")->E (.ref e) {s with heap:=g}):wpAny (model prog w) A (Builtin.SmallTypes.nextOf (.ref it)) Q E s:=by
 have hT:=hit.typeIs
 obtain⟨oi,e1,e2,e3⟩:=hit
 obtain⟨ot,f1,_,fn,f2⟩:=ht
 unfold Builtin.SmallTypes.nextOf
 refine wpAny_bind (wpAny_callSpecial?_slot (name:=Str.ofString "__next__") hT F.slot_tuple_iterator_next (wpAny_call_entry F.slot_tuple_iterator_next hT F.entry_tuple_iterator_next ?_ (F.args_tuple_iterator_next_1 _)))
 show wpAny (model prog w) _ (field (.ref it) 0 >>= _) _ _ s
 refine wpAny_bind (wpAny_field e1 e3 (x:=.ref t) rfl ?_)
 show wpAny (model prog w) _ (if (Value.ref t==Value.none)=true then _ else _) _ _ s
 rw[if_neg (show ¬ (Value.ref t==Value.none)=true from Bool.false_ne_true)]
 show wpAny (model prog w) _ (field (.ref it) 1 >>= _) _ _ s
 refine wpAny_bind (wpAny_field e1 e3 (x:=.int i 0) rfl ?_)
 show wpAny (model prog w) _ (seqItems? (.ref t) >>= _) _ _ s
 refine wpAny_bind (wpAny_seqItems f1 f2 ?_)
 simp only[hx,Int.toNat_natCast]
 refine wpAny_bind (wpAny_rule (wpAny_bind (wpAny_setField e1 e3 (by simp) ?_)))
 show wpAny (model prog w) _ (newExc (.type "StopIteration") [] >>= _) _ _ _
 refine wpAny_bind ?_
 simp only[newTuple,newExc]
 refine wpAny_bind (wpAny_newObj_type (wpAny_bind (m:=firstArgMember _ _) (wpAny_of_eq (a:=Value.none) (by first|rfl|(simp only[firstArgMember];rfl)) (wpAny_newObj_type ?_ (by size_fits)))) (by size_fits))
 simp only[raiseNew]
 refine wpAny_bind (wpAny_handled ?_)
 first|rw[show A.in1.handled=none from hh]|rw[hh]
 exact wpAny_bind (wpAny_pure (wpAny_throw (hE _ _ (((Heap.SameBut.update ..).extBut.push _).push _) ⟨_,Heap.get?_push_size _ rfl,rfl⟩)))
theorem nextOf_seq{it l:Addr}{k:Nat}{xs:Array Value}{x:Value}{Q:Value->Shared->Prop}(h:SeqIt s.heap it l k xs)(hx:xs[k]?=some x)(hQ:∀g,SeqIt g it l (k + 1) xs->Heap.SameBut it s.heap g->Q x {s with heap:=g}) :
  wpAny (model prog w) A (Builtin.SmallTypes.nextOf (.ref it)) Q E s:=by
 have ne:=h.ne
 rcases h with ⟨a,b⟩|⟨a,b⟩
 ·exact wpAny_nextOf_list_item a b hx fun g g1 g2=>hQ g (.inl ⟨g1,b.extBut g2.extBut ne⟩) g2
 ·exact nextOf_tup a b hx fun g g1 g2=>hQ g (.inr ⟨g1,b.extBut g2.extBut ne⟩) g2
theorem nextOf_seq_end{it l:Addr}{k:Nat}{xs:Array Value}{Q:Value->Shared->Prop}(hh:A.handled=none)(h:SeqIt s.heap it l k xs)(hx:xs[k]?=none)
  (hE:∀g e,Heap.ExtBut it s.heap g->(∃o,g.get? e=some o/\o.cls=.type "StopIteration")->E (.ref e) {s with heap:=g}):wpAny (model prog w) A (Builtin.SmallTypes.nextOf (.ref it)) Q E s:=by
 rcases h with ⟨a,b⟩|⟨a,b⟩
 ·exact wpAny_nextOf_list_end hh a b hx hE
 ·exact nextOf_tup_end hh a b hx hE
structure Zp(h:Heap)(z TI TO i j l m:Addr)(f:Value)(k:Nat)(xs ys:Array Value):Prop where
 z:IsZip h z TI TO f
 ti:IsPair h TI (.ref i) (.ref j)
 to:∃a b,IsPair h TO a b
 one:SeqIt h i l k xs
 two:SeqIt h j m k ys
structure Zd(z TI TO i j l m:Addr):Prop where
 nd:[z,TI,TO,i,j].Nodup
 l:l∉[z,TI,TO,i,j]
 m:m∉[z,TI,TO,i,j]
theorem Zd.all{z TI TO i j l m:Addr}(d:Zd z TI TO i j l m):(z≠TI/\z≠TO/\z≠i/\z≠j)/\(TI≠TO/\TI≠i/\TI≠j)/\(TO≠i/\TO≠j)/\i≠j/\(l≠z/\l≠TI/\l≠TO/\l≠i/\l≠j)/\(m≠z/\m≠TI/\m≠TO/\m≠i/\m≠j):=by
 obtain⟨a,b,c⟩:=d
 simp only[List.nodup_cons,List.mem_cons,List.not_mem_nil,or_false,not_or,List.nodup_nil,not_false_eq_true,and_true]at a b c
 exact⟨⟨a.1.1,a.1.2.1,a.1.2.2.1,a.1.2.2.2⟩,⟨a.2.1.1,a.2.1.2.1,a.2.1.2.2⟩,⟨a.2.2.1.1,a.2.2.1.2⟩,a.2.2.2,⟨b.1,b.2.1,b.2.2.1,b.2.2.2.1,b.2.2.2.2⟩,c.1,c.2.1,c.2.2.1,c.2.2.2.1,c.2.2.2.2⟩
theorem zipped{z TI TO i j l m:Addr}{k:Nat}{xs ys:Array Value}{x y:Value}{Q:Value->Shared->Prop}(d:Zd z TI TO i j l m)(Z:Zp s.heap z TI TO i j l m .none k xs ys)(hx:xs[k]?=some x)(hy:ys[k]?=some y)
  (hQ:∀g,Zp g z TI TO i j l m (rawInt s.heap.objs.size) (k + 1) xs ys->IsPair g s.heap.objs.size x y->g.objs.size=s.heap.objs.size + 1->(∀b o,b∉[z,TO,i,j]->s.heap.get? b=some o->g.get? b=some o)->Q (.ref s.heap.objs.size) {s with heap:=g}) :
  wpAny (model prog w) A (Builtin.«zip.__next__» ⟨[.ref z],[]⟩) (fun fin s'=>∃v,fin=.done (.ret v)/\Q v s') E s:=by
 obtain⟨⟨zTI,zTO,zi,zj⟩,⟨TITO,TIi,TIj⟩,⟨TOi,TOj⟩,ij,⟨lz,lTI,lTO,li,lj⟩,mz,mTI,mTO,mi,mj⟩:=d.all
 obtain⟨hz,hTI,⟨a,b,hTO⟩,h1,h2⟩:=Z
 show wpAny (model prog w) A (field (.ref z) 2 >>= _) _ _ _
 refine wpAny_bind (wpAny_field hz rfl (x:=.bool false) rfl (show wpAny (model prog w) A (field (.ref z) 3 >>= _) _ _ _ from wpAny_bind (wpAny_field hz rfl (x:=.ref TI) rfl (wpAny_bind (wpAny_seqItems hTI rfl ?_)))))
 show wpAny (model prog w) A (Builtin.SmallTypes.ownedTupleIsFree (.ref z) >>= _) _ _ _
 refine wpAny_bind ?_
 unfold Builtin.SmallTypes.ownedTupleIsFree
 refine wpAny_bind (wpAny_field hz rfl (x:=.none) rfl (wpAny_pure ?_))
 simp only[if_true]
 refine wpAny_bind (wpAny_rule (wpAny_bind (wpAny_field hz rfl (x:=.ref TO) rfl (wpAny_bind (wpAny_setField_rec hz (by simp) fun g1 z1 s1=>?_)))))
 replace z1:IsZip g1 z TI TO .ellipsis:=z1
 refine wpAny_bind ?_
 simp only[List.zipIdx_cons,List.zipIdx_nil,List.forIn_cons,List.forIn_nil]
 have k1:SeqIt g1 i l k xs:=h1.keep fun c o hc e=>(s1.2 c (by rcases hc with rfl|rfl;exact Ne.symm zi;exact lz)).trans e
 refine wpAny_bind (wpAny_bind (wpAny_onRaise ?_))
 show wpAny (model prog w) A (Builtin.SmallTypes.nextOf (.ref i) >>= _) _ _ _
 refine wpAny_bind (nextOf_seq k1 hx fun g2 k2 s2=>wpAny_pure ?_)
 have t2:IsPair g2 TO a b:=(s2.2 TO TOi).trans ((s1.2 TO (Ne.symm zTO)).trans hTO)
 refine wpAny_bind (wpAny_seqItems t2 rfl (wpAny_bind (wpAny_updateSeq_pair t2 fun g3 t3 s3=>?_)))
 replace t3:IsPair g3 TO x b:=t3
 refine wpAny_bind (wpAny_letGo (wpAny_pure ?_))
 have e3:SeqIt g3 j m k ys:=h2.keep fun c o hc e=>by
  have n:c≠z/\c≠i/\c≠TO:=by
   rcases hc with rfl|rfl
   ·exact⟨Ne.symm zj,Ne.symm ij,Ne.symm TOj⟩
   ·exact⟨mz,mi,mTO⟩
  exact(s3.2 c n.2.2).trans ((s2.2 c n.2.1).trans ((s1.2 c n.1).trans e))
 refine wpAny_bind (wpAny_bind (wpAny_onRaise ?_))
 show wpAny (model prog w) A (Builtin.SmallTypes.nextOf (.ref j) >>= _) _ _ _
 refine wpAny_bind (nextOf_seq e3 hy fun g4 e4 s4=>wpAny_pure ?_)
 have t4:IsPair g4 TO x b:=(s4.2 TO TOj).trans t3
 refine wpAny_bind (wpAny_seqItems t4 rfl (wpAny_bind (wpAny_updateSeq_pair t4 fun g5 t5 s5=>?_)))
 replace t5:IsPair g5 TO x y:=t5
 refine wpAny_bind (wpAny_letGo (wpAny_pure (wpAny_pure ?_)))
 refine wpAny_bind (wpAny_seqItems t5 rfl (wpAny_bind (wpAny_newTuple ?_)))
 have sz:g5.objs.size=s.heap.objs.size:=by rw[s5.1,s4.1,s3.1,s2.1,s1.1]
 have up5:∀c o,c≠z->c≠TO->c≠i->c≠j->s.heap.get? c=some o->g5.get? c=some o:=fun c o c1 c2 c3 c4 e=>(s5.2 c c2).trans ((s4.2 c c4).trans ((s3.2 c c2).trans ((s2.2 c c3).trans ((s1.2 c c1).trans e))))
 have z5:IsZip g5 z TI TO .ellipsis:=(s5.2 z zTO).trans ((s4.2 z zj).trans ((s3.2 z zTO).trans ((s2.2 z zi).trans z1)))
 have k5:SeqIt g5 i l (k + 1) xs:=k2.keep fun c o hc e=>by
  have n:c≠j/\c≠TO:=by
   rcases hc with rfl|rfl
   ·exact⟨ij,Ne.symm TOi⟩
   ·exact⟨lj,lTO⟩
  exact(s5.2 c n.2).trans ((s4.2 c n.1).trans ((s3.2 c n.2).trans e))
 have e5:SeqIt g5 j m (k + 1) ys:=e4.keep fun c o hc e=>(s5.2 c (by rcases hc with rfl|rfl;exact Ne.symm TOj;exact mTO)).trans e
 have zlt:z < g5.objs.size:=Heap.lt_size z5
 show wpAny (model prog w) A (Builtin.SmallTypes.ownedTupleHandOut (.ref z) (.ref g5.objs.size) >>= _) _ _ _
 refine wpAny_bind ?_
 unfold Builtin.SmallTypes.ownedTupleHandOut
 have z6:IsZip (g5.push {cls:=.type "tuple", data:=.seq #[x,y]}) z TI TO .ellipsis:=Heap.get?_push_of_some _ z5
 refine wpAny_bind (wpAny_setField_rec z6 (by simp) fun g7 z7 s7=>?_)
 replace z7:IsZip g7 z TI TO (rawInt g5.objs.size):=z7
 refine wpAny_setField_rec z7 (by simp) fun g8 z8 s8=>wpAny_pure ⟨_,rfl,?_⟩
 replace z8:IsZip g8 z TI TO (rawInt g5.objs.size):=z8
 have up:∀c o,c≠z->g5.get? c=some o->g8.get? c=some o:=fun c o c1 e=>(s8.2 c c1).trans ((s7.2 c c1).trans (Heap.get?_push_of_some _ e))
 have T8:IsPair g8 g5.objs.size x y:=(s8.2 _ (Nat.ne_of_gt zlt)).trans ((s7.2 _ (Nat.ne_of_gt zlt)).trans (Heap.get?_push_size _ rfl))
 have w8:g8.objs.size=g5.objs.size + 1:=by rw[s8.1,s7.1,Heap.size_push]
 rw[sz]at z8 T8 w8
 show Q (.ref g5.objs.size) _
 rw[sz]
 refine hQ g8 ⟨z8,up _ _ (Ne.symm zTI) (up5 _ _ (Ne.symm zTI) TITO TIi TIj hTI),⟨x,y,up _ _ (Ne.symm zTO) t5⟩,k5.keep fun c o hc e=>up c o (by rcases hc with rfl|rfl;exact Ne.symm zi;exact lz) e,
  e5.keep fun c o hc e=>up c o (by rcases hc with rfl|rfl;exact Ne.symm zj;exact mz) e⟩ T8 w8 fun c o hc e=>?_
 have n1:c≠z:=fun q=>hc (by simp[q])
 exact up c o n1 (up5 c o n1 (fun q=>hc (by simp[q])) (fun q=>hc (by simp[q])) (fun q=>hc (by simp[q])) e)
theorem zip_over{z TI TO i j l m:Addr}{k:Nat}{xs ys:Array Value}{Q:Fin->Shared->Prop}(hh:A.handled=none)(d:Zd z TI TO i j l m)(Z:Zp s.heap z TI TO i j l m .none k xs ys)(hend:xs[k]?=none∨ys[k]?=none)
  (hE:∀g e,(∀b o,b∉[z,TO,i,j]->s.heap.get? b=some o->g.get? b=some o)->(∃o,g.get? e=some o/\o.cls=.type "StopIteration")->E (.ref e) {s with heap:=g}) :
  wpAny (model prog w) A (Builtin.«zip.__next__» ⟨[.ref z],[]⟩) Q E s:=by
 obtain⟨⟨zTI,zTO,zi,zj⟩,⟨TITO,TIi,TIj⟩,⟨TOi,TOj⟩,ij,⟨lz,lTI,lTO,li,lj⟩,mz,mTI,mTO,mi,mj⟩:=d.all
 obtain⟨hz,hTI,⟨a,b,hTO⟩,h1,h2⟩:=Z
 show wpAny (model prog w) A (field (.ref z) 2 >>= _) _ _ _
 refine wpAny_bind (wpAny_field hz rfl (x:=.bool false) rfl (show wpAny (model prog w) A (field (.ref z) 3 >>= _) _ _ _ from wpAny_bind (wpAny_field hz rfl (x:=.ref TI) rfl (wpAny_bind (wpAny_seqItems hTI rfl ?_)))))
 show wpAny (model prog w) A (Builtin.SmallTypes.ownedTupleIsFree (.ref z) >>= _) _ _ _
 refine wpAny_bind ?_
 unfold Builtin.SmallTypes.ownedTupleIsFree
 refine wpAny_bind (wpAny_field hz rfl (x:=.none) rfl (wpAny_pure ?_))
 simp only[if_true]
 refine wpAny_bind (wpAny_rule (wpAny_bind (wpAny_field hz rfl (x:=.ref TO) rfl (wpAny_bind (wpAny_setField_rec hz (by simp) fun g1 z1 s1=>?_)))))
 replace z1:IsZip g1 z TI TO .ellipsis:=z1
 refine wpAny_bind ?_
 simp only[List.zipIdx_cons,List.zipIdx_nil,List.forIn_cons,List.forIn_nil]
 have k1:SeqIt g1 i l k xs:=h1.keep fun c o hc e=>(s1.2 c (by rcases hc with rfl|rfl;exact Ne.symm zi;exact lz)).trans e
 refine wpAny_bind (wpAny_bind (wpAny_onRaise ?_))
 show wpAny (model prog w) A (Builtin.SmallTypes.nextOf (.ref i) >>= _) _ _ _
 have nz:∀{g:Heap}{e:Addr},IsZip g z TI TO .ellipsis->(∃o,g.get? e=some o/\o.cls=.type "StopIteration")->e≠z:=fun hg ⟨o,ho,hc⟩ q=>by
  subst q
  rw[hg]at ho
  cases ho
  simp at hc
 cases hx:xs[k]? with
 | none =>
  refine wpAny_bind (nextOf_seq_end hh k1 hx fun g2 e s2 he=>?_)
  have z2:IsZip g2 z TI TO .ellipsis:=s2 z _ zi z1
  have ez:=nz z2 he
  refine wpAny_setField_rec z2 (by simp) fun g3 _ s3=>hE g3 e (fun c o hc q=>?_) (let ⟨o,ho,hc⟩:=he;⟨o,(s3.2 e ez).trans ho,hc⟩)
  have n1:c≠z:=fun q=>hc (by simp[q])
  exact(s3.2 c n1).trans (s2 c o (fun q=>hc (by simp[q])) ((s1.2 c n1).trans q))
 | some x =>
  have hy:ys[k]?=none:=by rcases hend with q|q;rw[hx]at q;cases q;exact q
  refine wpAny_bind (nextOf_seq k1 hx fun g2 k2 s2=>wpAny_pure ?_)
  have t2:IsPair g2 TO a b:=(s2.2 TO TOi).trans ((s1.2 TO (Ne.symm zTO)).trans hTO)
  refine wpAny_bind (wpAny_seqItems t2 rfl (wpAny_bind (wpAny_updateSeq_pair t2 fun g3 t3 s3=>?_)))
  refine wpAny_bind (wpAny_letGo (wpAny_pure ?_))
  have e3:SeqIt g3 j m k ys:=h2.keep fun c o hc e=>by
   have n:c≠z/\c≠i/\c≠TO:=by
    rcases hc with rfl|rfl
    ·exact⟨Ne.symm zj,Ne.symm ij,Ne.symm TOj⟩
    ·exact⟨mz,mi,mTO⟩
   exact(s3.2 c n.2.2).trans ((s2.2 c n.2.1).trans ((s1.2 c n.1).trans e))
  refine wpAny_bind (wpAny_bind (wpAny_onRaise ?_))
  show wpAny (model prog w) A (Builtin.SmallTypes.nextOf (.ref j) >>= _) _ _ _
  refine wpAny_bind (nextOf_seq_end hh e3 hy fun g4 e s4 he=>?_)
  have z4:IsZip g4 z TI TO .ellipsis:=s4 z _ zj ((s3.2 z zTO).trans ((s2.2 z zi).trans z1))
  have ez:=nz z4 he
  refine wpAny_setField_rec z4 (by simp) fun g5 _ s5=>hE g5 e (fun c o hc q=>?_) (let ⟨o,ho,hc⟩:=he;⟨o,(s5.2 e ez).trans ho,hc⟩)
  have n1:c≠z:=fun q=>hc (by simp[q])
  exact(s5.2 c n1).trans (s4 c o (fun q=>hc (by simp[q])) ((s3.2 c (fun q=>hc (by simp[q]))).trans ((s2.2 c (fun q=>hc (by simp[q]))).trans ((s1.2 c n1).trans q))))
theorem pyNext_zip{z TI TO i j l m:Addr}{k:Nat}{xs ys:Array Value}{x y:Value}{Q:Option Value->Shared->Prop}(d:Zd z TI TO i j l m)(Z:Zp s.heap z TI TO i j l m .none k xs ys)(hx:xs[k]?=some x)(hy:ys[k]?=some y)
  (hQ:∀g,Zp g z TI TO i j l m (rawInt s.heap.objs.size) (k + 1) xs ys->IsPair g s.heap.objs.size x y->g.objs.size=s.heap.objs.size + 1->(∀b o,b∉[z,TO,i,j]->s.heap.get? b=some o->g.get? b=some o)->Q (some (.ref s.heap.objs.size)) {s with heap:=g}) :
  wpAny (model prog w) A (pyNext (.ref z)) Q E s:=by
 have hT:s.TypeIs (.ref z) "zip" := ⟨_,Z.z,rfl⟩
 unfold pyNext
 exact wpAny_bind (wpAny_attempt (wpAny_callSpecial?_slot (name:=Str.ofString "__next__") hT F.slot_zip_next (wpAny_call_entry F.slot_zip_next hT F.entry_zip_next (zipped d Z hx hy fun g a1 a2 a3 a4=>wpAny_pure (hQ g a1 a2 a3 a4)) (F.args_zip_next_1 _))))
theorem pyNext_zip_end{z TI TO i j l m:Addr}{k:Nat}{xs ys:Array Value}{Q:Option Value->Shared->Prop}(hh:A.handled=none)(d:Zd z TI TO i j l m)(Z:Zp s.heap z TI TO i j l m .none k xs ys)(hend:xs[k]?=none∨ys[k]?=none)
  (hQ:∀g,(∀b o,b∉[z,TO,i,j]->s.heap.get? b=some o->g.get? b=some o)->Q none {s with heap:=g}):wpAny (model prog w) A (pyNext (.ref z)) Q E s:=by
 have hT:s.TypeIs (.ref z) "zip" := ⟨_,Z.z,rfl⟩
 unfold pyNext
 refine wpAny_bind (wpAny_attempt (wpAny_callSpecial?_slot (name:=Str.ofString "__next__") hT F.slot_zip_next (wpAny_call_entry F.slot_zip_next hT F.entry_zip_next (zip_over hh d Z hend fun g e hk ⟨o,ho,hc⟩=>?_) (F.args_zip_next_1 _))))
 exact wpAny_bind (wpAny_isInstance (T := "StopIteration") (b:=true) ⟨o,ho,hc⟩ isSubtype_stop (wpAny_pure (hQ _ hk)))
end
end TL
end
section
namespace TL
open PySem PySem.Spec PyProof.Rows L2
def SeqK(h:Heap)(c:Bool)(l:Addr)(xs:Array Value):Prop:=match c with|true=>h.IsList l xs|false=>h.IsTuple l xs
def itK:Bool->String
 | true => "list_iterator"
 | false => "tuple_iterator"
def itO(c:Bool)(l:Addr):Obj:={cls:=.type (itK c),data:=.fields #[.ref l,.int 0 0]}
def ItK(h:Heap)(c:Bool)(it l:Addr)(k:Nat):Prop:=match c with|true=>h.IsListIter it l k|false=>h.IsTupleIter it l k
theorem SeqK.lt{h:Heap}{c:Bool}{l:Addr}{xs:Array Value}(x:SeqK h c l xs):l < h.objs.size:=by
 cases c
 ·obtain⟨o,e,_⟩:=x;exact Heap.lt_size e
 ·obtain⟨o,e,_⟩:=x;exact Heap.lt_size e
theorem SeqK.push{h:Heap}{c:Bool}{l:Addr}{xs:Array Value}(x:SeqK h c l xs)(o:Obj):SeqK (h.push o) c l xs:=by
 cases c
 ·exact Heap.IsTuple.push x o
 ·exact Heap.IsList.push x o
theorem ItK.get{h:Heap}{c:Bool}{it l:Addr}{k:Nat}(x:ItK h c it l k):∃o,h.get? it=some o/\∀v,o.data ≠ .cell v:=by
 cases c
 ·obtain⟨o,e,c,d⟩:=x;exact⟨o,e,fun v z=>by rw[d]at z;cases z⟩
 ·obtain⟨o,e,c,d⟩:=x;exact⟨o,e,fun v z=>by rw[d]at z;cases z⟩
theorem ItK.keep{h h':Heap}{c:Bool}{it l:Addr}{k:Nat}(x:ItK h c it l k)(q:∀o,h.get? it=some o->h'.get? it=some o):ItK h' c it l k:=by
 cases c
 ·obtain⟨o,e,r⟩:=x;exact⟨o,q o e,r⟩
 ·obtain⟨o,e,r⟩:=x;exact⟨o,q o e,r⟩
theorem ItK.seq{h:Heap}{c:Bool}{it l:Addr}{k:Nat}{xs:Array Value}(x:ItK h c it l k)(y:SeqK h c l xs):SeqIt h it l k xs:=by
 cases c
 ·exact .inr ⟨x,y⟩
 ·exact .inl ⟨x,y⟩
theorem SeqIt.kind{h:Heap}{c:Bool}{it l:Addr}{k:Nat}{xs ys:Array Value}(x:SeqIt h it l k xs)(y:SeqK h c l ys):ItK h c it l k:=by
 rcases x with ⟨a,o,e,c1,_⟩|⟨a,o,e,c1,_⟩
 ·cases c
  ·obtain⟨o',e',c2,_⟩:=y
   rw[e]at e';cases e';rw[c1]at c2;simp at c2
  ·exact a
 ·cases c
  ·exact a
  ·obtain⟨o',e',c2,_⟩:=y
   rw[e]at e';cases e';rw[c1]at c2;simp at c2
section
variable {prog:Program} {w:World} {A:Around} {E:Value->Shared->Prop} {s:Shared}
theorem pyIter_k{c:Bool}{l:Addr}{xs:Array Value}{Q:Value->Shared->Prop}(hl:SeqK s.heap c l xs)(hQ:Q (.ref s.heap.objs.size) {s with heap:=s.heap.push (itO c l)}):wpAny (model prog w) A (pyIter (.ref l)) Q E s:=by
 cases c
 ·exact wpAny_pyIter_tuple hl hQ
 ·exact wpAny_pyIter_list hl hQ
end
abbrev zK1(h:Heap)(c:Bool)(l1:Addr):Heap:=h.push (itO c l1)
abbrev zK2(h:Heap)(c d:Bool)(l1 l2:Addr):Heap:=(zK1 h c l1).push (itO d l2)
abbrev zK3(h:Heap)(c d:Bool)(l1 l2:Addr):Heap:=(zK2 h c d l1 l2).push {cls:=.type "tuple", data:=.seq #[.ref h.objs.size,.ref (zK1 h c l1).objs.size]}
abbrev zK4(h:Heap)(c d:Bool)(l1 l2:Addr):Heap:=(zK3 h c d l1 l2).push {cls:=.type "tuple", data:=.seq #[.none,.none]}
abbrev zK5(h:Heap)(c d:Bool)(l1 l2:Addr):Heap:=(zK4 h c d l1 l2).push {cls:=.type "zip", data:=.fields #[.none,.bool false,.bool false,.ref (zK2 h c d l1 l2).objs.size,.ref (zK3 h c d l1 l2).objs.size]}
theorem meets_zipK(c d:Bool)(l1 l2:Addr)(xs ys:Array Value) :
  Meets (Builtin.«zip.__new__» ⟨[.type "zip", .ref l1,.ref l2],[]⟩) (fun _ R s=>SeqK s.heap c l1 xs/\SeqK s.heap d l2 ys ∧
   R (.ok (.ret (.ref (zK4 s.heap c d l1 l2).objs.size))) {s with heap:=zK5 s.heap c d l1 l2}) :=
 .of_wp fun prog w A R s h=>by
  obtain⟨hp,g,dr,tk,os⟩:=s
  obtain⟨hl1,hl2,h⟩:=h
  have hsub:=sub_zip
  have hL1:SeqK (Shared.heap ⟨hp,g,dr,tk,os⟩) c l1 xs:=hl1
  have hL2:SeqK (Shared.heap ⟨hp.push (itO c l1),g,dr,tk,os⟩) d l2 ys:=hl2.push _
  wp_walk using pyIter_k hL1,pyIter_k hL2
  exact⟨_,rfl,h⟩
theorem itK_at{h:Heap}{c:Bool}{l it:Addr}(e:h.get? it=some (itO c l)):ItK h c it l 0:=by
 cases c
 ·exact⟨_,e,rfl,rfl⟩
 ·exact⟨_,e,rfl,rfl⟩
section
variable {prog:Program} {w:World} {A:Around} {E:Value->Shared->Prop} {s:Shared}
theorem call_zipK{c d:Bool}{l1 l2:Addr}{xs ys:Array Value}{Q:Value->Shared->Prop}(hl1:SeqK s.heap c l1 xs)(hl2:SeqK s.heap d l2 ys)
  (h:∀h',IsZip h' (s.heap.objs.size + 4) (s.heap.objs.size + 2) (s.heap.objs.size + 3) .none->IsPair h' (s.heap.objs.size + 2) (.ref s.heap.objs.size) (.ref (s.heap.objs.size + 1)) →
   IsPair h' (s.heap.objs.size + 3) .none .none->ItK h' c s.heap.objs.size l1 0->ItK h' d (s.heap.objs.size + 1) l2 0 →
   (∀b o,s.heap.get? b=some o->h'.get? b=some o)->Q (.ref (s.heap.objs.size + 4)) {s with heap:=h' }) :
  wpAny (model prog w) A (call (.type "zip") [.ref l1,.ref l2]) Q E s:=by
 refine callType_new F.called_zip (by decide) (F.typeCall_zip_2 _ _) (F.newCall_zip_2 _ _) (fun obj=>F.args_object_init_3 obj _ _) F.entry_zip_new (meets_zipK c d l1 l2 xs ys) ⟨hl1,hl2,?_⟩
 have z1:(zK1 s.heap c l1).objs.size=s.heap.objs.size + 1:=Heap.size_push ..
 have z2:(zK2 s.heap c d l1 l2).objs.size=s.heap.objs.size + 2:=by rw[Heap.size_push,z1]
 have z3:(zK3 s.heap c d l1 l2).objs.size=s.heap.objs.size + 3:=by rw[Heap.size_push,z2]
 have z4:(zK4 s.heap c d l1 l2).objs.size=s.heap.objs.size + 4:=by rw[Heap.size_push,z3]
 have g5:(zK5 s.heap c d l1 l2).get? (zK4 s.heap c d l1 l2).objs.size=some _:=Heap.get?_push_size _ rfl
 have g4:(zK5 s.heap c d l1 l2).get? (zK3 s.heap c d l1 l2).objs.size=some _:=Heap.get?_push_of_some _ (Heap.get?_push_size _ rfl)
 have g3:(zK5 s.heap c d l1 l2).get? (zK2 s.heap c d l1 l2).objs.size=some _:=Heap.get?_push_of_some _ (Heap.get?_push_of_some _ (Heap.get?_push_size _ rfl))
 have g2:(zK5 s.heap c d l1 l2).get? (zK1 s.heap c l1).objs.size=some (itO d l2):=Heap.get?_push_of_some _ (Heap.get?_push_of_some _ (Heap.get?_push_of_some _ (Heap.get?_push_size _ rfl)))
 have g1:(zK5 s.heap c d l1 l2).get? s.heap.objs.size=some (itO c l1):=Heap.get?_push_of_some _ (Heap.get?_push_of_some _ (Heap.get?_push_of_some _ (Heap.get?_push_of_some _ (Heap.get?_push_size _ rfl))))
 show _/\_
 rw[z2,z3,z4]at g5
 rw[z1,z2]at g3
 rw[z3]at g4
 rw[z1]at g2
 rw[z4]
 exact⟨⟨_,g5,rfl⟩,h _ g5 g3 g4 (itK_at g1) (itK_at g2) fun c o x =>
  Heap.get?_push_of_some _ (Heap.get?_push_of_some _ (Heap.get?_push_of_some _ (Heap.get?_push_of_some _ (Heap.get?_push_of_some _ x))))⟩
end
def SqK(K:PySem.W.Frag)(H:Hp)(c:Bool)(a:Addr)(xs:List V):Prop:=match c with|true=>SqF K H a xs|false=>SqT K H a xs
theorem SqK.kp{K:PySem.W.Frag}{H H':Hp}{c:Bool}{a:Addr}{xs:List V}(h:SqK K H c a xs)(k:Kp H H'):SqK K H' c a xs:=by
 cases c
 ·exact sqT_kp k h
 ·exact sqF_kp k h
theorem inv_seqK{X:Cx}{pins:List (Addr×Obj)}{σ:St}{H:Hp}{s:Shared}{c:Bool}{a:Addr}{xs:List V}(I:Inv X pins σ H s)(h:SqK X.K H c a xs):∃its:List Value,Vals xs its/\SeqK s.heap c a its.toArray:=by
 cases c
 ·obtain⟨its,r,p,_⟩:=I.tuple h
  exact⟨its,r,p⟩
 ·obtain⟨its,r,p,_⟩:=I.list (SqF.sq h)
  exact⟨its,r,p.isList⟩
theorem inv_seqK_inj{X:Cx}{pins:List (Addr×Obj)}{σ:St}{H:Hp}{s:Shared}{c:Bool}{a:Addr}{xs ys:List V}(I:Inv X pins σ H s)(h:SqK X.K H c a xs)(h':SqK X.K H c a ys):xs=ys:=by
 cases c
 ·exact I.tuple_inj h h'
 ·exact I.list_inj (SqF.sq h) (SqF.sq h')
def Itz(K:PySem.W.Frag)(c d:Bool)(a b:Addr):It :=
  ⟨fun i H=>∃xs ys x y,SqK K H c a xs/\SqK K H d b ys/\xs[i]?=some x/\ys[i]?=some y,
   fun i H v H'=>∃p x y,H p=none/\v=.ref p/\H'=upd H p (.tup [x,y])/\(∀xs,SqK K H c a xs->xs[i]?=some x)/\∀ys,SqK K H d b ys->ys[i]?=some y,
   fun i H=>∃xs ys,SqK K H c a xs/\SqK K H d b ys/\(xs.length<=i∨ys.length<=i)⟩
structure Zt(h:Heap)(z TI TO i j l m:Addr)(c d:Bool)(k:Nat):Prop where
 z:IsZip h z TI TO .none
 ti:IsPair h TI (.ref i) (.ref j)
 to:∃a b,IsPair h TO a b
 one:ItK h c i l k
 two:ItK h d j m k
theorem turn_zip{P:Program}{w:World}{K:PySem.W.Frag}{elts:List Expr}{x1}{tp:Pos}{z TI TO i j l m:Addr}{c d:Bool}(D:Zd z TI TO i j l m) :
  Turn P w K (.Tuple elts x1 tp) (Itz K c d l m) [z,TI,TO,i,j] z (fun k h=>Zt h z TI TO i j l m c d k) where
 mem:=by simp
 obj:=fun k h st b hb=>by
  obtain⟨h1,h2,⟨a,a',h3⟩,h4,h5⟩:=st
  simp only[List.mem_cons,List.not_mem_nil,or_false]at hb
  rcases hb with rfl|rfl|rfl|rfl|rfl
  ·exact⟨_,h1,fun v z=>by cases z⟩
  ·exact⟨_,h2,fun v z=>by cases z⟩
  ·exact⟨_,h3,fun v z=>by cases z⟩
  ·exact h4.get
  ·exact h5.get
 keep:=fun k h h' st q=>by
  obtain⟨h1,h2,⟨a,a',h3⟩,h4,h5⟩:=st
  exact⟨q _ (by simp) _ h1,q _ (by simp) _ h2,⟨a,a',q _ (by simp) _ h3⟩,h4.keep fun o e=>q _ (by simp) o e,h5.keep fun o e=>q _ (by simp) o e⟩
 item:=by
  intro X hP hw hK hc k pins s σ H E I hf st hg
  subst hP hw hK
  obtain⟨xs,ys,x,y,hq,hq',hx,hy⟩:=hg
  obtain⟨h1,h2,h3,h4,h5⟩:=st
  obtain⟨its,rv,pl⟩:=inv_seqK I hq
  obtain⟨its',rv',pl'⟩:=inv_seqK I hq'
  obtain⟨u,hu,ru⟩:=rv.get hx
  obtain⟨u',hu',ru'⟩:=rv'.get hy
  have lt:∀b∈[z,TI,TO,i,j],b < s.heap.objs.size:=fun b hb=>by
   simp only[List.mem_cons,List.not_mem_nil,or_false]at hb
   rcases hb with rfl|rfl|rfl|rfl|rfl
   ·exact Heap.lt_size h1
   ·exact Heap.lt_size h2
   ·obtain⟨_,_,e⟩:=h3;exact Heap.lt_size e
   ·obtain⟨_,e,_⟩:=h4.get;exact Heap.lt_size e
   ·obtain⟨_,e,_⟩:=h5.get;exact Heap.lt_size e
  refine pyNext_zip D ⟨h1,h2,h3,h4.seq pl,h5.seq pl'⟩ (x:=u) (y:=u') (by simpa using hu) (by simpa using hu') fun g Z hp hz hk=>⟨_,rfl,?_⟩
  refine wpAny_letOwnedTupleGo_zip Z.z fun h2' z2 s2=>?_
  have hpn:H s.heap.objs.size=none:=I.hok.fresh (Nat.le_refl _)
  obtain⟨⟨zTI,zTO,zi,zj⟩,_,_,_,⟨lz,lTI,lTO,li,lj⟩,mz,mTI,mTO,mi,mj⟩:=D.all
  have up:∀b o,b≠z->g.get? b=some o->h2'.get? b=some o:=fun b o n e=>(s2.2 b n).trans e
  have kl:∀{e:Bool}{b:Addr}{vs:Array Value},b∉[z,TI,TO,i,j]->SeqK s.heap e b vs->SeqK g e b vs:=fun {e b vs} n q=>by
   have nb:b∉[z,TO,i,j]:=fun q=>n (by simp only[List.mem_cons,List.not_mem_nil,or_false]at q ⊢;rcases q with q|q|q|q<;>simp[q])
   cases e
   ·obtain⟨o,e,r⟩:=q;exact⟨o,hk b o nb e,r⟩
   ·obtain⟨o,e,r⟩:=q;exact⟨o,hk b o nb e,r⟩
  have t1:Zt h2' z TI TO i j l m c d (k + 1):=by
   obtain⟨a1,a2,⟨q,q',a3⟩,a4,a5⟩:=Z
   refine⟨z2,up _ _ (Ne.symm zTI) a2,⟨q,q',up _ _ (Ne.symm zTO) a3⟩,(a4.kind (kl D.l pl)).keep fun o e=>up _ _ (Ne.symm zi) e,(a5.kind (kl D.m pl')).keep fun o e=>up _ _ (Ne.symm zj) e⟩
  have ht2:IsTup h2' s.heap.objs.size [u,u'].toArray:=⟨_,up _ _ (Nat.ne_of_gt (lt z (by simp))) hp,rfl,_,rfl⟩
  have I2:Inv X pins σ (upd H s.heap.objs.size (.tup [x,y])) {s with heap:=h2',toks:=s.toks}:=by
   refine Inv.turnedT (ch:=[z,TI,TO,i,j]) I (fun b o hb e=>?_) (fun b hb=>?_) hf (Nat.le_refl _) (by show 2<=sizeLine;decide) (.cons ru (.cons ru' .nil)) ht2
   ·have n1:b≠z:=fun z=>hb (by simp[z])
    refine up b o n1 (hk b o (fun q=>hb ?_) e)
    simp only[List.mem_cons,List.not_mem_nil,or_false]at q ⊢
    rcases q with q|q|q|q<;>simp[q]
   ·simp only[List.mem_cons,List.not_mem_nil,or_false]at hb
    rcases hb with rfl|rfl|rfl|rfl|rfl
    ·exact⟨_,t1.z⟩
    ·exact⟨_,t1.ti⟩
    ·obtain⟨_,_,e⟩:=t1.to;exact⟨_,e⟩
    ·obtain⟨_,e,_⟩:=t1.one.get;exact⟨_,e⟩
    ·obtain⟨_,e,_⟩:=t1.two.get;exact⟨_,e⟩
  refine⟨.ref s.heap.objs.size,_,I2,rfl,⟨_,x,y,hpn,rfl,rfl,fun zs hs=>by rw[inv_seqK_inj I hs hq];exact hx,fun zs hs=>by rw[inv_seqK_inj I hs hq'];exact hy⟩,t1,fun b hb=>?_⟩
  rw[upd_ne (Nat.ne_of_lt (lt b hb))]
  exact(hf b hb).1
 done:=by
  intro X hP hw hK hc k pins s σ H E I hf st hg
  subst hP hw hK
  obtain⟨xs,ys,hq,hq',hx⟩:=hg
  obtain⟨h1,h2,h3,h4,h5⟩:=st
  obtain⟨its,rv,pl⟩:=inv_seqK I hq
  obtain⟨its',rv',pl'⟩:=inv_seqK I hq'
  have hl:=rv.length
  have hl':=rv'.length
  refine pyNext_zip_end (I.ok.hd hc) D ⟨h1,h2,h3,h4.seq pl,h5.seq pl'⟩ (by rcases hx with q|q;exact .inl (by simp;omega);exact .inr (by simp;omega)) fun g hk=>⟨rfl,?_⟩
  refine Inv.turnedL (ch:=[z,TI,TO,i,j]) I (t':=s.toks) (fun b o hb e=>hk b o (fun q=>hb ?_) e) hf
  simp only[List.mem_cons,List.not_mem_nil,or_false]at q ⊢
  rcases q with q|q|q|q<;>simp[q]
 self:=fun _ _ _ _ _ st h=>wpAny_pyIter_zip st.z h
def seqOf:T->Option (List T)
 | .tup ts=>some ts
 | .lst ts=>some ts
 | _=>none
def zipT:List T->List T->List T
 | x::xs,y::ys=>.tup [x,y]::zipT xs ys
 | _,_=>[]
theorem zipT_get:∀{xs ys:List T}{i:Nat}{t:T},(zipT xs ys)[i]?=some t->∃x y,xs[i]?=some x/\ys[i]?=some y/\t=.tup [x,y]
 | [],_,_,_,h=>by simp[zipT]at h
 | _::_,[],_,_,h=>by simp[zipT]at h
 | x::xs,y::ys,0,t,h=>by simp[zipT]at h;exact⟨x,y,by simp,by simp,h.symm⟩
 | x::xs,y::ys,i + 1,t,h=>by
  simp only[zipT,List.getElem?_cons_succ]at h ⊢
  exact zipT_get h
theorem zipT_len:∀(xs ys:List T),xs.length<=(zipT xs ys).length∨ys.length<=(zipT xs ys).length
 | [],_=>.inl (by simp)
 | _::_,[]=>.inr (by simp)
 | x::xs,y::ys=>by
  simp only[zipT,List.length_cons]
  rcases zipT_len xs ys with h|h
  ·exact .inl (by omega)
  ·exact .inr (by omega)
theorem rep_seq{K:PySem.W.Frag}{H:Hp}{t:T}{xs:List T}{v:V}(e:seqOf t=some xs)(r:Rep K H t v):∃c p vs,v=.ref p/\SqK K H c p vs/\Reps K H xs vs:=by
 cases t with
 | tup ts =>
  simp only[seqOf,Option.some.injEq]at e
  subst e
  rw[rep_tup]at r
  obtain⟨p,vs,e,q,rr⟩:=r
  exact⟨false,p,vs,e,q,rr⟩
 | lst ts =>
  simp only[seqOf,Option.some.injEq]at e
  subst e
  rw[rep_lst]at r
  obtain⟨p,vs,e,q,rr⟩:=r
  exact⟨true,p,vs,e,q,rr⟩
 | _=>simp[seqOf]at e
def iZip(ws:WA):WI:=fun τ Q=>ws τ fun ts=>match ts with
 | [a,b]=>(match seqOf a,seqOf b with|some xs,some ys=>Q (zipT xs ys)|_,_=>False)
 | _=>False
theorem two_seq{P:List T->Prop}{ts:List T}(h:match ts with|[a,b]=>(match seqOf a,seqOf b with|some xs,some ys=>P (zipT xs ys)|_,_=>False)|_=>False) :
  ∃a b xs ys,ts=[a,b]/\seqOf a=some xs/\seqOf b=some ys/\P (zipT xs ys):=by
 split at h
 ·rename_i a b
  split at h
  ·rename_i xs ys e1 e2
   exact⟨a,b,xs,ys,rfl,e1,e2,h⟩
  ·exact h.elim
 ·exact h.elim
section
variable {X:Cx} {a b:Expr} {ws:WA} {pos:Pos}
theorem jiZip{elts:List Expr}{x1}{tp p:Pos} (hg:Gl X "zip") (hm:X.mg "zip" = none) (ha:JA X [a,b] ws) (hs:starEach [a,b] X.env=(false,eval a X.env)::starEach [b] X.env:=by exact star1 rfl)
  (hpl:(backTo pos (starEach [b] X.env)).any (·.1)=false:=by exact stars rfl) :
  JI X (.Tuple elts x1 tp) (.Call (.Name "zip" p) [a,b] [] pos) (iZip ws):=by
 intro pins s σ H R I hw
 obtain⟨τ,Q0,Rs,hw,k⟩:=hw
 refine Call_ (ld_blt I hg hm boot_zip (PyProof.Rows.callWith_type1 (thn (ha pos pins s σ H (fun vs H1=>∃ts,Same H H1/\Reps X.K H1 ts vs/\(match ts with|[a,b]=>(match seqOf a,seqOf b with|some xs,some ys=>Q0 (zipT xs ys)|_,_=>False)|_=>False)) I ⟨τ,_,Rs,hw,fun ts vs H1 S r q=>⟨ts,S,r,q⟩⟩) fun us s1 ⟨vs,H1,I1,r1,ts,S1,rt,q1⟩=>?_) hs hpl))
 obtain⟨a,b,xs,ys,rfl,e1,e2,q1⟩:=two_seq (P:=Q0) q1
 obtain⟨v,v',rfl,rt1,rt2⟩:=reps2 rt
 obtain⟨c,l,vs,rfl,hq,rr⟩:=rep_seq e1 rt1
 obtain⟨d,m,vs',rfl,hq',rr'⟩:=rep_seq e2 rt2
 obtain⟨u,u',rfl,ru,ru'⟩:=vals2 r1
 cases ru
 cases ru'
 obtain⟨its,rv,pl⟩:=inv_seqK I1 hq
 obtain⟨its',rv',pl'⟩:=inv_seqK I1 hq'
 refine call_zipK pl pl' fun h2 z1 z2 z3 z4 z5 hk=>?_
 refine wpAny_pyIter_zip z1 ?_
 have I2:Inv X pins σ H1 {s1 with heap:=h2}:=I1.kept (t':=s1.toks) hk
 have D:Zd (s1.heap.objs.size + 4) (s1.heap.objs.size + 2) (s1.heap.objs.size + 3) s1.heap.objs.size (s1.heap.objs.size + 1) l m:=by
  have a1:=pl.lt
  have a2:=pl'.lt
  refine⟨?_,?_,?_⟩
  ·simp
  ·intro q
   simp only[List.mem_cons,List.not_mem_nil,or_false]at q
   rcases q with q|q|q|q|q<;>(rw[q]at a1;exact absurd a1 (Nat.not_lt.mpr (by first|exact Nat.le_refl _|exact Nat.le_add_right _ _)))
  ·intro q
   simp only[List.mem_cons,List.not_mem_nil,or_false]at q
   rcases q with q|q|q|q|q<;>(rw[q]at a2;exact absurd a2 (Nat.not_lt.mpr (by first|exact Nat.le_refl _|exact Nat.le_add_right _ _)))
 refine⟨s1.heap.objs.size + 4,[s1.heap.objs.size + 4,s1.heap.objs.size + 2,s1.heap.objs.size + 3,s1.heap.objs.size,s1.heap.objs.size + 1],_,Itz X.K c d l m,H1,rfl,I2,turn_zip D,⟨z1,z2,⟨_,_,z3⟩,z4,z5⟩,fun b hb=>?_,k _ _ H1 S1 ?_ q1⟩
 ·have hb':s1.heap.objs.size<=b:=by
   simp only[List.mem_cons,List.not_mem_nil,or_false]at hb
   rcases hb with rfl|rfl|rfl|rfl|rfl<;>first|exact Nat.le_refl _|exact Nat.le_add_right _ _
  exact I1.fpOk hb' (I1.hok.fresh hb')
 ·intro H2 K2
  have sq:=hq.kp K2
  have sq':=hq'.kp K2
  refine⟨fun i t ei=>?_,⟨vs,vs',sq,sq',by rw[rr.length,rr'.length];exact zipT_len xs ys⟩⟩
  obtain⟨x,y,ex,ey,rfl⟩:=zipT_get ei
  obtain⟨v,ev,rx⟩:=rr.get ex
  obtain⟨v',ev',ry⟩:=rr'.get ey
  refine⟨⟨vs,vs',v,v',sq,sq',ev,ev'⟩,fun x H3 y=>?_⟩
  obtain⟨p,y1,y2,hp,rfl,rfl,hy,hy'⟩:=y
  have w1:=hy vs sq
  have w2:=hy' vs' sq'
  rw[ev]at w1
  rw[ev']at w2
  cases w1
  cases w2
  exact⟨same_new hp _,rep_tup.mpr ⟨p,_,rfl,SqT.of upd_same,.cons ((rx.kp K2).kp (.of (same_new hp _))) (.one ((ry.kp K2).kp (.of (same_new hp _))))⟩⟩
end
end TL
end
section
namespace TL
open PySem PySem.Spec PyProof.Rows L2
section
variable {X:Cx}
def intsOf:List T->Option (List Int)
 | []=>some []
 | .int i::r=>(intsOf r).map (i :: ·)
 | _=>none
theorem intsOf_eq:∀{ts:List T}{ns:List Int},intsOf ts=some ns->ts=ns.map T.int
 | [],ns,h=>by simp only[intsOf,Option.some.injEq]at h;subst h;rfl
 | t::r,ns,h=>by
  cases t with
  | int i =>
   simp only[intsOf,Option.map_eq_some_iff]at h
   obtain⟨ms,e,rfl⟩:=h
   rw[intsOf_eq e]
   rfl
  | _=>simp[intsOf]at h
theorem reps_ints_inv{K:PySem.W.Frag}{H:Hp}:∀{ns:List Int}{vs:List V},Reps K H (ns.map T.int) vs->vs=ns.map V.int
 | [],vs,h=>by simpa using reps_nil.mp h
 | n::ns,vs,h=>by
  simp only[List.map_cons]at h
  rw[reps_cons]at h
  obtain⟨v,r,rfl,h1,h2⟩:=h
  rw[rep_int.mp h1,reps_ints_inv h2]
  rfl
def rSumT(ts:List T)(Q:T->Prop):Prop:=match ts with
 | [.lst xs]=>(match intsOf xs with|some ns=>Q (.int ns.sum)|none=>False)
 | _=>False
theorem boolsAre_of:∀{bs:List Bool}{us:List Value},Vals (bs.map V.bl) us->LSm.BoolsAre us bs
 | [],us,h=>by cases h;exact .nil
 | b::bs,us,h=>by
  simp only[List.map_cons]at h
  cases h with
  | cons r1 r2=>cases r1;exact .cons b (boolsAre_of r2)
theorem call_allL(hc:X.calm=true):CallR X (.builtin "all") (fun xs H Q=>∃(p:Addr) (bs:List Bool),xs=[.ref p]/\SqL X.K H p (bs.map V.bl)/\Q (.bl (bs.all id)) H):=by
 intro pins s σ H xs us Q I r h
 obtain⟨p,bs,rfl,hq,q⟩:=h
 obtain⟨u,rfl,rx⟩:=vals1 r
 cases rx
 obtain⟨its,r',pl,hz⟩:=I.list hq
 have hb:LSm.BoolsAre its bs:=boolsAre_of r'
 have hl:=pl.isList
 have hlt:p < s.heap.objs.size:=by obtain⟨_,e,_⟩:=hl;exact Heap.lt_size e
 refine call_all_walk (wpAny_pyIter_list hl ?_)
 refine⟨s.heap.objs.size,[s.heap.objs.size,p],[s.heap.objs.size],its.toArray.size,_,_,fun i=>(bs[i]?).getD true,rfl,Walks.list (A:=X.A.in1) (I.ok.hd hc) _ p (Nat.ne_of_lt hlt) its.toArray,
  ⟨⟨_,Heap.get?_push_size _ rfl,rfl,rfl⟩,hl.push _⟩,fun i v s' Q' E' hP hQ=>?_,fun h' tk hk=>?_⟩
 ·obtain⟨b,e,rfl⟩:=hb.get i v (by simpa using hP)
  simp only[e,Option.getD_some]at hQ
  exact wpAny_truthy_bool hQ
 ·have e:((List.range its.toArray.size).all fun i=>(bs[i]?).getD true)=bs.all id:=by
   rw[List.size_toArray,hb.length];exact LSm.range_all bs
  rw[e]
  exact⟨.bl (bs.all id),H,I.kept (t':=tk) (LSm.kept_iter hk),rfl,q⟩
def boolsOf:List T->Option (List Bool)
 | []=>some []
 | .bl i::r=>(boolsOf r).map (i :: ·)
 | _=>none
theorem boolsOf_eq:∀{ts:List T}{ns:List Bool},boolsOf ts=some ns->ts=ns.map T.bl
 | [],ns,h=>by simp only[boolsOf,Option.some.injEq]at h;subst h;rfl
 | t::r,ns,h=>by
  cases t with
  | bl i =>
   simp only[boolsOf,Option.map_eq_some_iff]at h
   obtain⟨ms,e,rfl⟩:=h
   rw[boolsOf_eq e]
   rfl
  | _=>simp[boolsOf]at h
theorem reps_bools_inv{K:PySem.W.Frag}{H:Hp}:∀{ns:List Bool}{vs:List V},Reps K H (ns.map T.bl) vs->vs=ns.map V.bl
 | [],vs,h=>by simpa using reps_nil.mp h
 | n::ns,vs,h=>by
  simp only[List.map_cons]at h
  rw[reps_cons]at h
  obtain⟨v,r,rfl,h1,h2⟩:=h
  rw[rep_bl.mp h1,reps_bools_inv h2]
  rfl
def rAllT(ts:List T)(Q:T->Prop):Prop:=match ts with
 | [.lst xs]=>(match boolsOf xs with|some bs=>Q (.bl (bs.all id))|none=>False)
 | _=>False
theorem bl_all(hc:X.calm=true):BlR X (.builtin "all") rAllT:=by
 refine⟨_,call_allL hc,fun ts vs H Q0 Q r q k=>?_⟩
 unfold rAllT at q
 split at q
 ·obtain⟨v,rfl,r1⟩:=reps1 r
  split at q
  ·rename_i ns e
   rw[boolsOf_eq e,rep_lst]at r1
   obtain⟨p,ys,rfl,sq,rr⟩:=r1
   rw[reps_bools_inv rr]at sq
   exact⟨p,ns,rfl,sq.sq,k _ _ H (.refl H) (rep_bl.mpr rfl) q⟩
  ·exact q.elim
 ·exact q.elim
theorem upd_upd{H:Hp}{p:Addr}{a b:HO}:upd (upd H p a) p b=upd H p b:=by
 funext c
 by_cases h:c=p
 ·subst h;rw[upd_same,upd_same]
 ·rw[upd_ne h,upd_ne h,upd_ne h]
theorem call_listF:CallR X (.type "list") (fun xs H Q=>∃p ys,xs=[.ref p]/\(SqL X.K H p ys∨SqT X.K H p ys)/\∀l o,H l=none->Q (.ref l) (upd H l (.frz o (.lst ys)))):=by
 intro pins s σ H xs us Q I r h
 obtain⟨p,ys,e,hq,q⟩:=h
 refine thn (call_list_of pins s σ H xs us (fun v H'=>∃l,v=.ref l/\H l=none/\H'=upd H l (.lst ys)) I r ⟨p,ys,e,hq,fun l hl=>⟨l,rfl,hl,rfl⟩⟩) fun u s1 ⟨v,H1,I1,rv,l,e1,hl,e2⟩=>?_
 subst e1 e2
 obtain⟨o,I2⟩:=Inv.freeze I1 (upd_same (o:=.lst ys))
 rw[upd_upd]at I2
 exact⟨_,_,I2,rv,q l o hl⟩
def rListT(ts:List T)(Q:T->Prop):Prop:=match ts with
 | [.tup xs]=>Q (.lst xs)
 | [.lst xs]=>Q (.lst xs)
 | _=>False
theorem ty_list:BlR X (.type "list") rListT:=by
 refine⟨_,call_listF,fun ts vs H Q0 Q r q k=>?_⟩
 have fin:∀{xs:List T}{ys:List V},Q0 (.lst xs)->Reps X.K H xs ys->∀l o,H l=none->Q (.ref l) (upd H l (.frz o (.lst ys))):=fun q rr l o hl =>
  k _ _ _ (same_new hl _) (rep_lst.mpr ⟨l,_,rfl,.inl ⟨o,upd_same⟩,rr.kp (.of (same_new hl _))⟩) q
 unfold rListT at q
 split at q
 ·obtain⟨v,rfl,r1⟩:=reps1 r
  rw[rep_tup]at r1
  obtain⟨p,ys,rfl,sq,rr⟩:=r1
  exact⟨p,ys,rfl,.inr sq,fin q rr⟩
 ·obtain⟨v,rfl,r1⟩:=reps1 r
  rw[rep_lst]at r1
  obtain⟨p,ys,rfl,sq,rr⟩:=r1
  exact⟨p,ys,rfl,.inl sq.sq,fin q rr⟩
 ·exact q.elim
end
end TL
end
section
namespace TL
open PySem PySem.Spec PyProof.Rows L2
section
variable {X:Cx} {a b c e:Expr} {es:List Expr} {wa wb wc w:WE} {ws:WA} {pos:Pos}
def rSeqCat(K:PySem.W.Frag):R2:=fun x y H Q=>∃a b xs ys,x=.ref a/\y=.ref b/\xs.length + ys.length<=sizeLine ∧
  ((SqL K H a xs/\SqL K H b ys/\∀p o,H p=none->Q (.ref p) (upd H p (.frz o (.lst (xs++ys))))) ∨
   (SqT K H a xs/\SqT K H b ys/\(xs=[]->Q (.ref b) H)/\(xs≠[]->ys=[]->Q (.ref a) H)/\(xs≠[]->ys≠[]->∀p,H p=none->Q (.ref p) (upd H p (.tup (xs++ys))))))
theorem op_seqCat:OpR X (binaryOp .Add) (rSeqCat X.K):=by
 intro pins s σ H x y v u Q I rx ry h
 obtain⟨a,b,xs,ys,rfl,rfl,hz,h⟩:=h
 cases rx
 cases ry
 rcases h with ⟨ha,hb,q⟩|⟨ha,hb,q0,q1,q2⟩
 ·obtain⟨its,r1,p1,_⟩:=I.list ha
  obtain⟨its2,r2,p2,_⟩:=I.list hb
  have hl1:=r1.length
  have hl2:=r2.length
  obtain⟨⟨cls,dd,data,sl⟩,ho,hc,n,hd⟩:=p1.isList
  obtain⟨⟨cls2,dd2,data2,sl2⟩,ho2,hc2,n2,hd2⟩:=p2.isList
  simp only at hc hd hc2 hd2
  subst hc hd hc2 hd2
  refine concat_meets ⟨_,ho,rfl⟩ ⟨_,ho2,rfl⟩ noFill_list_add seq_list_add PySem.F.slot_list_add PySem.F.entry_list_add (PySem.F.args_list_add_2 _ _) (list_addW a b its.toArray its2.toArray n n2 dd dd2 sl sl2 (by simp only[List.size_toArray];omega)) ⟨ho,ho2,?_⟩
  have e:its.toArray++its2.toArray=(its++its2).toArray:=by simp
  rw[e]
  have hf:H s.heap.objs.size=none:=I.hok.fresh (Nat.le_refl _)
  refine⟨.ref s.heap.objs.size,upd H s.heap.objs.size (.frz {cls:=.type "list", data:=.seq (its++its2).toArray} (.lst (xs++ys))),I.laid (t':=s.toks) (fun b u e=>Heap.get?_push_of_some _ e) (Nat.le_refl _) ?_,rfl,q _ _ hf⟩
  exact⟨Heap.get?_push_size _ rfl,by rw[List.length_append];exact hz,its++its2,0,r1.append r2,Heap.get?_push_size _ rfl⟩
 ·obtain⟨its,r1,p1,_⟩:=I.tuple ha
  obtain⟨its2,r2,p2,_⟩:=I.tuple hb
  by_cases hx:xs=[]
  ·subst hx
   have hi:its=[]:=r1.nil_iff.mpr rfl
   subst hi
   obtain⟨⟨cls,dd,data,sl⟩,ho,hc,n,hd⟩:=p1
   obtain⟨⟨cls2,dd2,data2,sl2⟩,ho2,hc2,n2,hd2⟩:=p2
   simp only at hc hd hc2 hd2
   subst hc hd hc2 hd2
   refine concat_meets ⟨_,ho,rfl⟩ ⟨_,ho2,rfl⟩ noFill_tuple_add seq_tuple_add PySem.F.slot_tuple_add PySem.F.entry_tuple_add (PySem.F.args_tuple_add_2 _ _) (tuple_addW0 a b _ _ n n2 dd dd2 sl sl2 rfl) ⟨ho,ho2,?_⟩
   exact⟨.ref b,H,I,rfl,q0 rfl⟩
  ·refine HT.cat_tup p1 p2 (fun z=>hx (r1.nil_iff.mp z)) (fun z=>⟨.ref a,H,I,rfl,q1 hx (r2.nil_iff.mp z)⟩) (fun z=>?_) (by rw[← r1.length,← r2.length];exact hz)
   refine⟨.ref s.heap.objs.size,_,I.laid (t':=s.toks) (o:=.tup (xs++ys)) (fun b ob q=>Heap.get?_push_of_some _ q) (Nat.le_refl _) ?_,rfl,q2 hx (fun w=>z (r2.nil_iff.mpr w)) _ (I.hok.fresh (Nat.le_refl _))⟩
   exact⟨by rw[List.length_append];exact hz,_,r1.append r2,IsTup.new _ _⟩
def rCatLT(x y:T)(Q:T->Prop):Prop:=match x,y with
 | .lst xs,.lst ys=>xs.length + ys.length<=1000/\Q (.lst (xs++ys))
 | .tup xs,.tup ys=>xs.length + ys.length<=1000/\Q (.tup (xs++ys))
 | _,_=>False
theorem b_cat:BR X .Add rCatLT:=by
 refine⟨_,op_seqCat,fun t1 t2 v1 v2 H Q0 Q r1 r2 q k=>?_⟩
 unfold rCatLT at q
 split at q
 ·rw[rep_lst]at r1 r2
  obtain⟨p,vs,rfl,sq,rr⟩:=r1
  obtain⟨p',vs',rfl,sq',rr'⟩:=r2
  exact⟨p,p',vs,vs',rfl,rfl,by rw[rr.length,rr'.length];exact few q.1,.inl ⟨sq.sq,sq'.sq,fun l o hl =>
   k _ _ _ (same_new hl _) (rep_lst.mpr ⟨l,_,rfl,.inl ⟨o,upd_same⟩,(rr.append rr').kp (.of (same_new hl _))⟩) q.2⟩⟩
 ·have e1:=r1
  have e2:=r2
  rw[rep_tup]at r1 r2
  obtain⟨p,vs,rfl,sq,rr⟩:=r1
  obtain⟨p',vs',rfl,sq',rr'⟩:=r2
  have z1:=rr.length
  have z2:=rr'.length
  refine⟨p,p',vs,vs',rfl,rfl,by rw[rr.length,rr'.length];exact few q.1,.inr ⟨sq,sq',fun hx=>?_,fun _ hy=>?_,fun _ _ l hl =>
   k _ _ _ (same_new hl _) (rep_tup.mpr ⟨l,_,rfl,SqT.of upd_same,(rr.append rr').kp (.of (same_new hl _))⟩) q.2⟩⟩
  ·subst hx
   rename_i xs ys
   have:xs=[]:=List.length_eq_zero_iff.mp (by simpa using z1.symm)
   subst this
   exact k _ _ H (.refl H) e2 q.2
  ·rename_i xs ys _
   subst hy
   have:ys=[]:=List.length_eq_zero_iff.mp (by simpa using z2.symm)
   subst this
   have q':=q.2
   rw[List.append_nil]at q'
   exact k _ _ H (.refl H) e1 q'
 ·exact q.elim
def rMin3T(ts:List T)(Q:T->Prop):Prop:=match ts with
 | [.int i,.int j,.int k]=>Q (.int (if j < i then (if k < j then k else j) else (if k < i then k else i)))
 | _=>False
end
end TL
end
section
namespace TL
open PySem PySem.Spec PyProof.Rows L2
section
variable {prog:Program} {w:World} {A:Around} {E:Value->Shared->Prop} {s:Shared}
end
section
variable {X:Cx} {a b c e:Expr} {es:List Expr} {wa wb wc w:WE} {ws:WA} {pos:Pos}
def wRevA(wa ws:WE):WE:=fun τ Q=>wa τ fun x=>ws τ fun y=>match x,y with | .tup ts,.int i=>i=-1/\Q (.tup ts.reverse) | .lst ts,.int i=>i=-1/\Q (.lst ts.reverse)|_,_=>False
abbrev WO:=List Slot->(Option Int->Prop)->Prop
def upO(K:PySem.W.Frag)(H0:Hp)(w:WO):TO:=fun σ H Q=>∃(τ:List Slot) (Q0:Option Int->Prop),RepSt K H0 H σ τ/\w τ Q0/\∀o H',Same H H'->Q0 o->Q o H'
def JO(X:Cx)(e:Option Expr)(w:WO):Prop:=PO X e (upO X.K X.H₀ w)
def wo0:WO:=fun _ Q=>Q none
def wo(wa:WE):WO:=fun τ Q=>wa τ fun x=>match x with | .int i=>Q (some i)|_=>False
theorem po_of{e:Option Expr}{t t':TO}(h:PO X e t)(f:∀σ H Q,t' σ H Q->t σ H Q):PO X e t':=fun pins s σ H Q I hw=>h pins s σ H Q I (f σ H Q hw)
theorem jo0:JO X none wo0:=po_of po_none fun σ H Q ⟨τ,Q0,R,hw,k⟩=>k _ H (.refl H) hw
theorem jo(h:JE X e wa):JO X (some e) (wo wa):=po_of (po_some h) fun σ H Q ⟨τ,Q0,R,hw,k⟩=>⟨τ,_,R,hw,fun t v H1 S1 r q=>by
 cases t<;>first|exact q.elim|skip
 exact⟨_,rep_int.mp r,k _ H1 S1 q⟩⟩
def cutT(ts:List T)(lo hi:Option Int):List T:=(ts.drop (HT.sIx ts.length 0 lo)).take (HT.sIx ts.length ts.length hi - HT.sIx ts.length 0 lo)
theorem cut_reps{K:PySem.W.Frag}{H:Hp}{ts:List T}{vs:List V}{lo hi:Option Int}(r:Reps K H ts vs):Reps K H (cutT ts lo hi) (cutV vs lo hi):=by
 unfold cutT cutV
 rw[r.length]
 exact(r.drop _).take _
def rSlTT(x:T)(lo hi:Option Int)(Q:T->Prop):Prop:=match x with
 | .tup ts=>¬ (HT.sIx ts.length 0 lo=0/\HT.sIx ts.length ts.length hi=ts.length)/\Q (.tup (cutT ts lo hi))
 | .lst ts=>Q (.lst (cutT ts lo hi))
 | _=>False
def wSl(wa:WE)(wl wh:WO):WE:=fun τ Q=>wa τ fun x=>wl τ fun lo=>wh τ fun hi=>rSlTT x lo hi Q
def rSlF(K:PySem.W.Frag):V->Option Int->Option Int->Hp->VK->Prop:=fun x lo hi H Q=>∃a xs,x=.ref a/\SqL K H a xs/\∀p o,H p=none->Q (.ref p) (upd H p (.frz o (.lst (cutV xs lo hi))))
theorem sl_listF:SlR X (rSlF X.K):=by
 intro pins s σ H x v vl vu lo hi sl Q I rx hs pl pu h
 obtain⟨a,xs,rfl,hx,q⟩:=h
 cases rx
 obtain⟨its,r,ht,hz⟩:=I.list hx
 have hlen:=r.length
 refine⟨"list", _,slot_list_getitem.lookup,ht.isList.typeIs,?_⟩
 refine wpAny_getItem_list_slice ht.isList hs pl pu .none (by simp) ?_ (by rw[List.size_toArray]<;>omega)
 rw[slicePick_cut,← hlen]
 refine⟨.ref s.heap.objs.size,_,I.laid (t':=s.toks) (o:=.frz {cls:=.type "list", data:=.seq ((its.drop (HT.sIx xs.length 0 lo)).take (HT.sIx xs.length xs.length hi - HT.sIx xs.length 0 lo)).toArray} (.lst (cutV xs lo hi))) (fun b ob q=>Heap.get?_push_of_some _ q) (Nat.le_refl _) ?_,rfl,q _ _ (I.hok.fresh (Nat.le_refl _))⟩
 exact⟨Heap.get?_push_size _ rfl,Nat.le_trans (cutV_length xs lo hi) hz,_,0,(r.drop (HT.sIx xs.length 0 lo)).take (HT.sIx xs.length xs.length hi - HT.sIx xs.length 0 lo),Heap.get?_push_size _ rfl⟩
theorem jsl{lo hi:Option Expr}{wl wh:WO}{p2:Pos}(ha:JE X e wa)(hl:JO X lo wl)(hh:JO X hi wh):JE X (.Subscript e (.Slice lo hi none p2) pos) (wSl wa wl wh):=pe_of (pe_slice (sl_listF.or sl_tup) ha hl hh) fun σ H Q ⟨τ,Q0,R,hw,k⟩ =>
 ⟨τ,_,R,hw,fun t v H1 S1 r1 q1=>⟨τ,_,R.mono S1,q1,fun l H2 S2 q2=>⟨τ,_,R.mono (S1.trans S2),q2,fun h H3 S3 q3=>by
  have r1':=r1.kp (.of (S2.trans S3))
  cases t<;>first|exact q3.elim|skip
  ·rename_i ts
   rw[rep_tup]at r1'
   obtain⟨p,vs,rfl,sq,rr⟩:=r1'
   refine .inr ⟨p,vs,rfl,sq,by rw[rr.length];exact q3.1,fun pp hp=>k _ _ _ (S1.trans (S2.trans (S3.trans (same_new hp _)))) (rep_tup.mpr ⟨pp,_,rfl,SqT.of upd_same,(cut_reps rr).kp (.of (same_new hp _))⟩) q3.2⟩
  ·rename_i ts
   rw[rep_lst]at r1'
   obtain⟨p,vs,rfl,sq,rr⟩:=r1'
   exact .inl ⟨p,vs,rfl,sq.sq,fun pp o hp=>k _ _ _ (S1.trans (S2.trans (S3.trans (same_new hp _)))) (rep_lst.mpr ⟨pp,_,rfl,.inl ⟨o,upd_same⟩,(cut_reps rr).kp (.of (same_new hp _))⟩) q3⟩⟩⟩⟩
end
end TL
end
section
namespace TL
open PySem PySem.Spec PyProof.Rows L2
structure Fly(P:Program)(w:World)(outer:List Env)(H:Hp)(s:Shared)(H':Hp)(e:Addr)(cls:Value)(s':Shared):Prop where
 os:s'.os=s.os
 bare:AllBare s'.gens
 un:Un (frs outer) [] H H' s.heap s'.heap
 hok:HOk P w H' s'.heap
 new:s.heap.get? e=none
 non:H' e=none
 fly:∃B a0,Heap.FlyingW B outer e cls a0 s'.heap/\(∀b o,H' b=some o->∃u,B.get? b=some u)/\∀b u o,s.heap.get? b=some u->s'.heap.get? b=some o->b∉frs outer->B.get? b=some o
theorem objOk_some{P:Program}{w:World}{H:Hp}{h:Heap}{a:Addr}{o:HO}(x:ObjOk P w H h a o):∃u,h.get? a=some u:=by
 induction o with
 | lst xs=>obtain⟨_,_,_,_,e⟩:=x;exact⟨_,e⟩
 | tup xs=>obtain⟨_,_,_,ob,e,_⟩:=x;exact⟨_,e⟩
 | dK kvs=>obtain⟨_,_,_,_,o,_,_,e,_⟩:=x;exact⟨_,e⟩
 | dT kvs=>obtain⟨_,_,_,_,o,_,_,e,_⟩:=x;exact⟨_,e⟩
 | set S n=>obtain⟨o,_,_,_,e,_⟩:=x;exact⟨_,e⟩
 | ins C dx fs=>obtain⟨_,_,_,e,_⟩:=x;exact⟨_,e⟩
 | own y=>obtain⟨_,e⟩:=x;exact⟨_,e⟩
 | xd fs=>obtain⟨_,⟨_,_,_,e,_⟩,_⟩:=x;exact⟨_,e⟩
 | rng lo hi=>obtain⟨_,_,_,e⟩:=x;exact⟨_,e⟩
 | frz ob u=>obtain⟨e,_⟩:=x;exact⟨_,e⟩
 | tbl ps=>exact⟨_,(show h.get? a=some _ from x)⟩
 | met f y=>exact⟨_,(show h.get? a=some _ from x)⟩
 | ext φ=>obtain⟨_,⟨_,e⟩,_⟩:=x;exact⟨_,e⟩
theorem hok_objs{P:Program}{w:World}{H:Hp}{h h':Heap}(ok:HOk P w H h)(k:∀b o u,H b=some o->h.get? b=some u->h'.get? b=some u):HOk P w H h':=fun b o e =>
 (ok b o e).stay (fun c v hc q=>by
  rcases hc with rfl|hc
  ·exact k _ _ v e q
  ·exact k _ _ v hc q) (fun _ q=>q) fun _ _ q=>q
section
variable {X:Cx} {pins:List (Addr×Obj)} {σ:St} {H H':Hp} {s s':Shared} {e:Addr}
structure DefCx(X:Cx):Prop where
 stk:X.stack=X.env::X.outer
 frame:X.env.frame=some X.env.locals
 ex:X.ex=[]
theorem frs_cons(D:DefCx X):frs X.stack=X.env.locals::frs X.outer:=by
 rw[D.stk]
 unfold frs
 rw[List.filterMap_cons,D.frame]
end
section
variable {M:Model} {A:Around} {E:Value->Shared->Prop} {s:Shared}
theorem dict_fields(o:Obj)(f:Array Value->Array Value):(o.mapFields f).dict=o.dict:=by
 obtain⟨c,d,dt,sl⟩:=o
 cases dt<;>rfl
def DAt(h:Heap)(e:Addr)(d:Option Addr):Prop:=∃o,h.get? e=some o/\o.dict=d
theorem two_writes{base h0 h1:Heap}{l:List Env}{e:Addr}{oe tb:Obj}{vs ts:Array Value}{a0:Value}
  (hl:h0.FunFrames base l) (he:h0.get? e=some oe) (hkb:base.StaysIn h0) (hen:base.get? e=none) (hd:oe.data=.fields vs) (hsz:1 < vs.size) (hv:vs[0]?=some a0)
  (S1:Heap.SlotsOnly (l.filterMap (·.frame)) h0 h1) (htb:tb.data=.fields ts) (h3:3 < ts.size) :
  Heap.LeftW base l e oe.cls a0 h0 (((h1.push tb).update e (Obj.mapFields (·.setIfInBounds 1 (.ref h1.objs.size)))).update h1.objs.size (Obj.mapFields (·.setIfInBounds 3 .none))) ∧
   DAt (((h1.push tb).update e (Obj.mapFields (·.setIfInBounds 1 (.ref h1.objs.size)))).update h1.objs.size (Obj.mapFields (·.setIfInBounds 3 .none))) e oe.dict:=by
 have eN:e∉l.filterMap (·.frame):=by
  intro m
  obtain⟨_,o,q,n⟩:=hl.mem m
  rw[he]at q
  cases q
  exact n vs hd
 have e1:h1.get? e=some oe:=by rw[S1.2.1 e eN];exact he
 have ne:h1.objs.size≠e:=Nat.ne_of_gt (Heap.lt_size e1)
 have d3:=Obj.data_mapFields hd (·.setIfInBounds 1 (Value.ref h1.objs.size))
 have e2:=Heap.get?_update_self (Obj.mapFields (·.setIfInBounds 1 (Value.ref h1.objs.size))) (Heap.get?_push_of_some tb e1) (Obj.isFreed_of_fields d3)
 have t1:((h1.push tb).update e (Obj.mapFields (·.setIfInBounds 1 (Value.ref h1.objs.size)))).get? h1.objs.size=some tb:=by
  rw[Heap.get?_update_other _ _ (Ne.symm ne)]
  exact Heap.get?_push_size h1 (Obj.isFreed_of_fields htb)
 have d4:=Obj.data_mapFields htb (·.setIfInBounds 3 Value.none)
 have t2:=Heap.get?_update_self (Obj.mapFields (·.setIfInBounds 3 Value.none)) t1 (Obj.isFreed_of_fields d4)
 have e3:=(Heap.get?_update_other ((h1.push tb).update e (Obj.mapFields (·.setIfInBounds 1 (Value.ref h1.objs.size)))) (Obj.mapFields (·.setIfInBounds 3 Value.none)) ne).trans e2
 have rest:∀b o,b≠e->h1.get? b=some o->(((h1.push tb).update e (Obj.mapFields (·.setIfInBounds 1 (Value.ref h1.objs.size)))).update h1.objs.size (Obj.mapFields (·.setIfInBounds 3 Value.none))).get? b=some o:=by
  intro b o n q
  rw[Heap.get?_update_other _ _ (Nat.ne_of_gt (Heap.lt_size q)),Heap.get?_update_other _ _ (Ne.symm n)]
  exact Heap.get?_push_of_some _ q
 have inb:∀b o,base.get? b=some o->h1.get? b=some o:=by
  intro b o q
  rw[S1.2.1 b (by intro m;rw[(hl.mem m).1]at q;cases q)]
  exact hkb b o q
 have nr:∀b o,h0.get? b=some o->(∀us,o.data ≠ .fields us)->b≠e:=by
  rintro b o q n rfl
  rw[he]at q
  cases q
  exact n vs hd
 refine⟨⟨fun b o q=>rest b o (by rintro rfl;rw[hen]at q;cases q) (inb b o q),hl.of_keeps fun b o q n=>?_,?_,fun b o q n=>?_⟩,_,e3,dict_fields _ _⟩
 ·obtain⟨sl,z⟩:=S1.2.2 b o q
  exact⟨_,rest b _ (nr b o q n) z,rfl⟩
 ·refine⟨_,_,h1.objs.size,_,_,e3,⟨Obj.cls_mapFields _ _,?_⟩,d3,?_,?_,ne,t2,d4,?_⟩
  ·rw[Array.getElem?_setIfInBounds_ne (by decide)]
   exact hv
  ·simp[hsz]
  ·exact Heap.StaysIn.fresh inb
  ·simp[h3]
 ·obtain⟨sl,z⟩:=S1.2.2 b o q
  exact⟨sl,rest b _ (nr b o q n) z⟩
theorem entryD{base:Heap}{env:Env}{outer:List Env}{L e:Addr}{oe:Obj}{vs:Array Value}{head a0:Value}{hn:Bool}{Q:Unit->Shared->Prop}
  (hfr:A.frames=some (env::outer)) (hl:s.heap.FunFrames base (env::outer)) (hf:env.frame=some L) (he:s.heap.get? e=some oe)
  (hkb:base.StaysIn s.heap) (hen:base.get? e=none) (hd:oe.data=.fields vs) (hsz:1 < vs.size) (hv:vs[0]?=some a0)
  (h:∀h',Heap.LeftW base (env::outer) e oe.cls a0 s.heap h'->DAt h' e oe.dict->Q () {s with heap:=h' }) :
  wpAny M A (do
   let a ← frameOf env
   let pl ← entryPlaceOf L hn
   let b ← EntryCells.newEntry head a .none (rawInt L) .none pl
   setField (.ref e) 1 b) (fun _ s'=>wpAny M A (setFlight (.ref e) none) Q E s') E s:=by
 refine wpAny_bind (wpAny_frameOf_fun hfr hl hf fun h1 S1=>wpAny_bind (wpAny_entryPlaceOf fun pl hp=>?_))
 unfold EntryCells.newEntry newFields
 refine wpAny_bind (wpAny_newObj_type ?_ (hp.sizeOk5 _ _ _ _ _))
 have eN:e∉(env::outer).filterMap (·.frame):=by
  intro m
  obtain⟨_,o,q,n⟩:=hl.mem m
  rw[he]at q
  cases q
  exact n vs hd
 have e1:h1.get? e=some oe:=by rw[S1.2.1 e eN];exact he
 have ne:h1.objs.size≠e:=Nat.ne_of_gt (Heap.lt_size e1)
 have d3:=Obj.data_mapFields hd (·.setIfInBounds 1 (Value.ref h1.objs.size))
 refine wpAny_setField (Heap.get?_push_of_some _ e1) hd hsz ?_
 unfold setFlight
 refine wpAny_bind (wpAny_field (Heap.get?_update_self _ (Heap.get?_push_of_some _ e1) (Obj.isFreed_of_fields d3)) d3 (x:=.ref h1.objs.size) (by simp[hsz]) ?_)
 rw[if_pos (by simp)]
 have W:=fun z=>two_writes (tb:={cls:=.type "traceback", dict:=none,data:=.fields ([head,.ref L,.none,rawInt L,.none]++(if pl.isEmpty then List.replicate 6 Value.none else pl)).toArray}) hl he hkb hen hd hsz hv S1 rfl z
 have z:3 < ([head,.ref L,.none,rawInt L,.none]++(if pl.isEmpty then List.replicate 6 Value.none else pl)).toArray.size:=by
  simp only[List.size_toArray,List.length_append,List.length_cons,List.length_nil]
  omega
 refine wpAny_setField ((Heap.get?_update_other _ _ (Ne.symm ne)).trans (Heap.get?_push_size h1 rfl)) rfl z ?_
 exact h _ (W z).1 (W z).2
theorem firstD{base:Heap}{env:Env}{outer:List Env}{L e:Addr}{oe:Obj}{vs:Array Value}{a0:Value}{Q:Unit->Shared->Prop}
  (hfr:A.frames=some (env::outer)) (hl:s.heap.FunFrames base (env::outer)) (hf:env.frame=some L) (he:s.heap.get? e=some oe)
  (hkb:base.StaysIn s.heap) (hen:base.get? e=none) (hd:oe.data=.fields vs) (hn:vs[1]?=some .none) (hv:vs[0]?=some a0)
  (h:∀h',Heap.LeftW base (env::outer) e oe.cls a0 s.heap h'->DAt h' e oe.dict->Q () {s with heap:=h' }):wpAny M A (leaving env (.ref e)) Q E s:=by
 unfold leaving noteFrame
 rw[hf]
 refine wpAny_bind (wpAny_bind (wpAny_field he hd hn ?_))
 rw[if_neg (by decide)]
 exact entryD hfr hl hf he hkb hen hd (Array.getElem?_eq_some_iff.mp hn).1 hv h
theorem nextD{base:Heap}{env:Env}{outer:List Env}{L e:Addr}{cls a0:Value}{d:Option Addr}{Q:Unit->Shared->Prop}
  (hfr:A.frames=some (env::outer)) (hf:env.frame=some L) (fl:Heap.FlyingW base (env::outer) e cls a0 s.heap) (da:DAt s.heap e d)
  (hQ:∀h',Heap.FlyingW base outer e cls a0 h'->s.heap.UpToSlots h'->DAt h' e d->Q () {s with heap:=h' }):wpAny M A (leaving env (.ref e)) Q E s:=by
 obtain⟨hkb,hen,hl,oe,vs,tr,ot,ts,he,⟨rfl,hv⟩,hd,hn,hnt,hte,ht,hdt,h3⟩:=fl
 obtain⟨o,q,rfl⟩:=da
 rw[he]at q
 cases q
 unfold leaving noteFrame
 rw[hf]
 refine wpAny_bind (wpAny_bind (wpAny_field he hd hn ?_))
 rw[if_pos (by simp)]
 refine wpAny_bind (wpAny_field ht hdt h3 ?_)
 rw[if_neg (by simp[rawInt])]
 refine wpAny_bind (wpAny_setField ht hdt (Array.getElem?_eq_some_iff.mp h3).1 ?_)
 have oth:∀b,b≠tr->(s.heap.update tr (Obj.mapFields (·.setIfInBounds 3 .none))).get? b=s.heap.get? b:=fun b n=>Heap.get?_update_other _ _ (Ne.symm n)
 have nr:∀b o,s.heap.get? b=some o->(∀us,o.data ≠ .fields us)->b≠tr:=by
  rintro b o q n rfl
  rw[ht]at q
  cases q
  exact n ts hdt
 refine entryD hfr (hl.of_keeps fun b o q n=>⟨o,(oth b (nr b o q n)).trans q,rfl⟩) hf ((oth e (Ne.symm hte)).trans he) (fun b o q=>(oth b (by rintro rfl;rw[hnt]at q;cases q)).trans (hkb b o q)) hen hd (Array.getElem?_eq_some_iff.mp hn).1 hv fun h' x y=>?_
 obtain⟨k1,⟨_,_,k2⟩,k3,k4⟩:=x
 exact hQ h' ⟨k1,hen,k2,k3⟩ (fun b o q n=>k4 b o ((oth b (nr b o q n)).trans q) n) y
theorem one_write{base h0 h1:Heap}{l:List Env}{e:Addr}{oe tb:Obj}{vs ts:Array Value}{a0 fl:Value}
  (hl:h0.FunFrames base l) (he:h0.get? e=some oe) (hkb:base.StaysIn h0) (hen:base.get? e=none) (hd:oe.data=.fields vs) (hsz:1 < vs.size) (hv:vs[0]?=some a0)
  (S1:Heap.SlotsOnly (l.filterMap (·.frame)) h0 h1) (htb:tb.data=.fields ts) (h3:ts[3]?=some fl) :
  Heap.NotedW base l e oe.cls a0 fl h0 ((h1.push tb).update e (Obj.mapFields (·.setIfInBounds 1 (.ref h1.objs.size)))) ∧
   DAt ((h1.push tb).update e (Obj.mapFields (·.setIfInBounds 1 (.ref h1.objs.size)))) e oe.dict:=by
 have eN:e∉l.filterMap (·.frame):=by
  intro m
  obtain⟨_,o,q,n⟩:=hl.mem m
  rw[he]at q
  cases q
  exact n vs hd
 have e1:h1.get? e=some oe:=by rw[S1.2.1 e eN];exact he
 have ne:h1.objs.size≠e:=Nat.ne_of_gt (Heap.lt_size e1)
 have d3:=Obj.data_mapFields hd (·.setIfInBounds 1 (Value.ref h1.objs.size))
 have e2:=Heap.get?_update_self (Obj.mapFields (·.setIfInBounds 1 (Value.ref h1.objs.size))) (Heap.get?_push_of_some tb e1) (Obj.isFreed_of_fields d3)
 have t1:((h1.push tb).update e (Obj.mapFields (·.setIfInBounds 1 (Value.ref h1.objs.size)))).get? h1.objs.size=some tb:=by
  rw[Heap.get?_update_other _ _ (Ne.symm ne)]
  exact Heap.get?_push_size h1 (Obj.isFreed_of_fields htb)
 have rest:∀b o,b≠e->h1.get? b=some o->((h1.push tb).update e (Obj.mapFields (·.setIfInBounds 1 (Value.ref h1.objs.size)))).get? b=some o:=by
  intro b o n q
  rw[Heap.get?_update_other _ _ (Ne.symm n)]
  exact Heap.get?_push_of_some _ q
 have inb:∀b o,base.get? b=some o->h1.get? b=some o:=by
  intro b o q
  rw[S1.2.1 b (by intro m;rw[(hl.mem m).1]at q;cases q)]
  exact hkb b o q
 have nr:∀b o,h0.get? b=some o->(∀us,o.data ≠ .fields us)->b≠e:=by
  rintro b o q n rfl
  rw[he]at q
  cases q
  exact n vs hd
 refine⟨⟨fun b o q=>rest b o (by rintro rfl;rw[hen]at q;cases q) (inb b o q),hl.of_keeps fun b o q n=>?_,?_,fun b o q n=>?_⟩,_,e2,dict_fields _ _⟩
 ·obtain⟨sl,z⟩:=S1.2.2 b o q
  exact⟨_,rest b _ (nr b o q n) z,rfl⟩
 ·refine⟨_,_,h1.objs.size,_,_,e2,⟨Obj.cls_mapFields _ _,?_⟩,d3,?_,?_,ne,t1,htb,h3⟩
  ·rw[Array.getElem?_setIfInBounds_ne (by decide)]
   exact hv
  ·simp[hsz]
  ·exact Heap.StaysIn.fresh inb
 ·obtain⟨sl,z⟩:=S1.2.2 b o q
  exact⟨sl,rest b _ (nr b o q n) z⟩
theorem noteD{base:Heap}{env:Env}{outer:List Env}{L e:Addr}{cls a0:Value}{d:Option Addr}{Q:Unit->Shared->Prop}
  (hfr:A.frames=some (env::outer)) (hf:env.frame=some L) (fl:Heap.FlyingW base (env::outer) e cls a0 s.heap) (da:DAt s.heap e d)
  (hQ:∀h',Heap.HeldW base (env::outer) e cls a0 L h'->s.heap.UpToSlots h'->DAt h' e d->Q () {s with heap:=h' }):wpAny M A (noteFrame (.ref e) env) Q E s:=by
 obtain⟨hkb,hen,hl,oe,vs,tr,ot,ts,he,⟨rfl,hv⟩,hd,hn,hnt,hte,ht,hdt,h3⟩:=fl
 obtain⟨o,q,rfl⟩:=da
 rw[he]at q
 cases q
 unfold noteFrame
 rw[hf]
 refine wpAny_bind (wpAny_field he hd hn ?_)
 rw[if_pos (by simp)]
 refine wpAny_bind (wpAny_field ht hdt h3 ?_)
 rw[if_neg (by simp[rawInt])]
 refine wpAny_bind (wpAny_setField ht hdt (Array.getElem?_eq_some_iff.mp h3).1 ?_)
 obtain⟨h0,hh0⟩:∃h0,h0=s.heap.update tr (Obj.mapFields (·.setIfInBounds 3 .none)):=⟨_,rfl⟩
 have oth:∀b,b≠tr->h0.get? b=s.heap.get? b:=fun b n=>by rw[hh0];exact Heap.get?_update_other _ _ (Ne.symm n)
 have nr:∀b o,s.heap.get? b=some o->(∀us,o.data ≠ .fields us)->b≠tr:=by
  rintro b o q n rfl
  rw[ht]at q
  cases q
  exact n ts hdt
 rw[← hh0]
 have hl0:h0.FunFrames base (env::outer):=hl.of_keeps fun b o q n=>⟨o,(oth b (nr b o q n)).trans q,rfl⟩
 have he0:h0.get? e=some oe:=(oth e (Ne.symm hte)).trans he
 refine wpAny_bind (wpAny_frameOf_fun (s:={s with heap:=h0}) hfr hl0 hf fun h1 S1=>wpAny_bind (wpAny_entryPlaceOf fun pl hp=>?_))
 unfold EntryCells.newEntry newFields
 refine wpAny_bind (wpAny_newObj_type ?_ (hp.sizeOk5 _ _ _ _ _))
 have eN:e∉(env::outer).filterMap (·.frame):=by
  intro m
  obtain⟨_,o,q,n⟩:=hl0.mem m
  rw[he0]at q
  cases q
  exact n vs hd
 have e1:h1.get? e=some oe:=by rw[S1.2.1 e eN];exact he0
 refine wpAny_setField (Heap.get?_push_of_some _ e1) hd (Array.getElem?_eq_some_iff.mp hn).1 ?_
 have W:=one_write (tb:={cls:=.type "traceback", dict:=none,data:=.fields ([.ref tr,.ref L,.none,rawInt L,.none]++(if pl.isEmpty then List.replicate 6 Value.none else pl)).toArray}) hl0 he0 (fun b o q=>(oth b (by rintro rfl;rw[hnt]at q;cases q)).trans (hkb b o q)) hen hd (Array.getElem?_eq_some_iff.mp hn).1 hv S1 rfl (fl:=rawInt L) (by rfl)
 obtain⟨⟨k1,k2,k3,k4⟩,k5⟩:=W
 exact hQ _ ⟨k1,hen,k2,k3⟩ (fun b o q n=>k4 b o ((oth b (nr b o q n)).trans q) n) k5
theorem landD{base:Heap}{l:List Env}{e:Addr}{cls a0 fl:Value}{d:Option Addr}{Q:Unit->Shared->Prop}(hkb:base.StaysIn s.heap)(hen:base.get? e=none)(hl:s.heap.FunFrames base l)(tr:s.heap.TracedAtW base e cls a0 fl)(da:DAt s.heap e d)
  (hQ:∀h',Heap.FlyingW base l e cls a0 h'->s.heap.UpToSlots h'->DAt h' e d->Q () {s with heap:=h' }):wpAny M A (setFlight (.ref e) none) Q E s:=by
 obtain⟨oe,vs,t,oT,ts,he,hcls,hd,h1,hnT,hTe,hT,hdT,h3⟩:=tr
 obtain⟨o,q,rfl⟩:=da
 rw[he]at q
 cases q
 have hsz3:3 < ts.size:=(Array.getElem?_eq_some_iff.mp h3).1
 have oth:∀b,b≠t->(s.heap.update t (Obj.mapFields (·.setIfInBounds 3 ((none:Option Addr).elim Value.none fun f=>rawInt f)))).get? b=s.heap.get? b:=fun b n=>Heap.get?_update_other _ _ (Ne.symm n)
 have nr:∀b o,s.heap.get? b=some o->(∀us,o.data ≠ .fields us)->b≠t:=by
  rintro b o q n rfl
  rw[hT]at q
  cases q
  exact n ts hdT
 unfold setFlight
 refine wpAny_bind (wpAny_field he hd h1 ?_)
 rw[if_pos (by simp)]
 have e2:=(oth e (Ne.symm hTe)).trans he
 refine wpAny_setField hT hdT hsz3 (hQ _ ⟨fun b o q=>(oth b (by rintro rfl;rw[hnT]at q;cases q)).trans (hkb b o q),hen,hl.of_keeps fun b o q n=>⟨o,(oth b (nr b o q n)).trans q,rfl⟩,?_⟩ (fun b o q n=>⟨o.slots,(oth b (nr b o q n)).trans q⟩) ⟨oe,e2,rfl⟩)
 exact⟨oe,vs,t,_,_,e2,hcls,hd,h1,hnT,hTe,Heap.get?_update_self _ hT (Obj.isFreed_of_fields (Obj.data_mapFields hdT _)),Obj.data_mapFields hdT _,by simp[hsz3]⟩
end
section
variable {P:Program} {w:World} {A:Around} {E:Value->Shared->Prop} {h:Heap} {g:Array GenState} {d:Drawn} {t:Nat} {os:OsState}
variable {nm q:Str} {C N fI:Addr} {bs bm bB:List Value} {hd ab:Bool} {sn:List Str} {sub:List Value} {col:Option Bool} {dd:Option Addr} {k0 k1 k2 k3 k5:Option Value} {B nid iid:String} {mN:Str->Option Value} {oI:Obj} {rest:List Value}
theorem tcall_own(F:ExcBaseFacts B nid iid bB)(hB:bB.contains (.type B)=true)(TT:OwnTail h bB bm){Q:Fin->Shared->Prop}
  (hC:h.get? C=some (excClassObj nm q C N bs bm hd sn sub ab col dd k0 k1 k2 k3 k5 nid)) (hN:h.Ns N mN) (hi:mN "__init__" = some (.ref fI)) (hf:h.get? fI=some oI) (hc:oI.cls=.type "function")
  (hq:∀h' e,Heap.MadeExcOf h h' e (.ref C) rest->h.objs.size<=e->wpAny (model P w) A (call (.ref fI) (.ref e::rest)) (fun r s'=>r=.none/\Q (.done (.ret (.ref e))) s') E ⟨h',g,d,t,os⟩)
  (hr:rest.length<=sizeLine):wpAny (model P w) A (Builtin.«type.__call__» ⟨.ref C::rest,[]⟩) Q E ⟨h,g,d,t,os⟩:=by
 repeat (first|with_reducible refine wpAny_loadPart_at hC ?_|with_reducible refine wpAny_madeBy_exc hC ?_|wp_step)
 refine codeAny_call_builtin_code (Code.quiet_builtin _ F.quiet) (wpAny_check_new_subU F hB TT hC (codeAny_exc_new_subU F hB F TT hC ?_ hr))
 show wpAny _ _ _ _ _ _
 have up:∀b o,h.get? b=some o->((h.push {cls:=.type "tuple", data:=.seq rest.toArray}).push {cls:=.ref C,data:=.fields #[.ref h.objs.size,.none,.none,.none,.bool false,.none]}).get? b=some o:=fun b o z=>Heap.get?_push_of_some _ (Heap.get?_push_of_some _ z)
 have at1:((h.push {cls:=.type "tuple", data:=.seq rest.toArray}).push {cls:=.ref C,data:=.fields #[.ref h.objs.size,.none,.none,.none,.bool false,.none]}).get? (h.objs.size + 1)=some {cls:=.ref C,data:=.fields #[.ref h.objs.size,.none,.none,.none,.bool false,.none]}:=by heap_get
 have self:(Value.ref C::bm).contains (.ref C)=true:=by simp
 have hC1:=up _ _ hC
 unfold isInstance
 repeat (first|with_reducible refine wpAny_loadPart_at at1 ?_|(with_reducible refine wpAny_isSubtype_exc hC1 ?_;rw[self])|wp_step)
 show wpAny _ _ (typeLookup (.ref C) _) _ _ _
 refine wpAny_typeLookup_tail hC1 (hN.keeps up) (TT.keeps up) F.mroIs F.init.lookup ?_
 rw[hi]
 refine wpAny_holding (wpAny_bind ?_)
 unfold bindSpecial
 refine wpAny_bind (wpAny_typeOf (T := "function") ⟨_,up _ _ hf,hc⟩ ?_)
 rw[if_pos (by decide)]
 have mk:Heap.MadeExcOf h ((h.push {cls:=.type "tuple", data:=.seq rest.toArray}).push {cls:=.ref C,data:=.fields #[.ref h.objs.size,.none,.none,.none,.bool false,.none]}) (h.objs.size + 1) (.ref C) rest :=
  ⟨up,Heap.get?_none_of_le (Nat.le_succ _),h.objs.size,at1,Heap.get?_none_of_le (Nat.le_refl _),Heap.get?_push_of_some _ (Heap.get?_push_at rfl rfl)⟩
 refine wpAny_pure (wpAny_bind (wpAny_mono (hq _ _ mk (Nat.le_succ _)) (fun r s' z=>?_) fun _ _ z=>z))
 obtain⟨rfl,z⟩:=z
 wp_walk
 exact z
theorem call_own(F:ExcBaseFacts B nid iid bB)(hB:bB.contains (.type B)=true)(TT:OwnTail h bB bm){Q:Value->Shared->Prop}
  (hC:h.get? C=some (excClassObj nm q C N bs bm hd sn sub ab col dd k0 k1 k2 k3 k5 nid)) (hN:h.Ns N mN) (hi:mN "__init__" = some (.ref fI)) (hf:h.get? fI=some oI) (hc:oI.cls=.type "function")
  (hq:∀h' e,Heap.MadeExcOf h h' e (.ref C) rest->h.objs.size<=e->wpAny (model P w) (A.under (.builtin "type.__call__" ⟨.ref C::rest,[]⟩)) (call (.ref fI) (.ref e::rest)) (fun r s'=>r=.none/\Q (.ref e) s') E ⟨h',g,d,t,os⟩)
  (hr:rest.length<=sizeLine):wpAny (model P w) A (call (.ref C) rest) Q E ⟨h,g,d,t,os⟩:=by
 have z1:=tc_lookup
 have z2:=tc_bind (.ref C)
 have z3:(⟨h,g,d,t,os⟩:Shared).TypeIs (.ref C) "type" := ⟨_,hC,rfl⟩
 refine wpAny_call (codeAny_of_tree ?_)
 show wpAny _ _ (callAny (.ref C) _) _ _ _
 repeat (any_goals (first|assumption|with_reducible refine wpAny_loadPart_at hC ?_|wp_step))
 exact⟨rfl,codeAny_call_builtin_at (Code.quiet_builtin _ (by decide +kernel)) entry_typeCall (wpAny_check_type_call_sub hC (tcall_own F hB TT hC hN hi hf hc (fun h' e m l=>hq h' e m l) hr))⟩
end
section
variable {P:Program} {w:World} {A:Around} {E:Value->Shared->Prop} {s:Shared} {env:Env} {M:Model}
variable {nm q:Str} {C N fI:Addr} {bs bm bB:List Value} {hd ab:Bool} {sn:List Str} {sub:List Value} {col:Option Bool} {dd:Option Addr} {k0 k1 k2 k3 k5:Option Value} {B nid iid:String} {mN:Str->Option Value} {oI:Obj}
abbrev excObj(C:Addr)(a0:Value)(dx:Option Addr):Obj:={cls:=.ref C,dict:=dx,data:=.fields #[a0,.none,.none,.none,.bool false,.none]}
theorem raise_made{x:Sem Value}{Q:Flow->Shared->Prop} (hb:bm.contains (.type "BaseException")=true) (hh:A.handled=none)
  (h:wpAny M A x (fun v s1=>∃e a0 dx,v=.ref e/\s1.heap.get? C=some (excClassObj nm q C N bs bm hd sn sub ab col dd k0 k1 k2 k3 k5 nid)/\s1.heap.get? e=some (excObj C a0 dx)/\E (.ref e) s1) E s) :
  wpAny M A (raiseStmt env (some x) none) Q E s:=by
 have hcB:(Value.ref C::bm).contains (.type "BaseException")=true:=by rw[List.contains_cons,hb,Bool.or_true]
 unfold raiseStmt
 refine wpAny_bind (wpAny_mono h (fun v s1 z=>?_) fun _ _ z=>z)
 obtain⟨e,a0,dx,rfl,hC,he,hE⟩:=z
 obtain⟨hp,g,d,tk,os⟩:=s1
 repeat (first|with_reducible refine wpAny_loadPart_at he ?_|with_reducible refine wpAny_loadPart_at hC ?_|(with_reducible refine wpAny_isSubtype_exc hC ?_;rw[hcB])|wp_step)
 exact wpAny_raiseNew_none hh hE
theorem raise_own(F:ExcBaseFacts B nid iid bB)(hB:bB.contains (.type B)=true){x:Str}{np cpos pos:Pos}{args:List Expr}{Q:Flow->Shared->Prop}
  (hb:bm.contains (.type "BaseException")=true) (hh:A.handled=none) (hpl:(backTo cpos (starEach args env)).any (·.1)=false) (hi:mN "__init__" = some (.ref fI)) (hc:oI.cls=.type "function")
  (h : wpAny (model P w) A (eval (.Name x np) env) (fun f s1=>f=.ref C/\wpAny (model P w) A (evalArgs (.ref C) true (backTo cpos (starEach args env)) [])
   (fun a s2=>a.kw=[]/\a.pos.length<=sizeLine/\s2.heap.get? C=some (excClassObj nm q C N bs bm hd sn sub ab col dd k0 k1 k2 k3 k5 nid)/\s2.heap.Ns N mN/\s2.heap.get? fI=some oI/\OwnTail s2.heap bB bm ∧
    ∀h' e,Heap.MadeExcOf s2.heap h' e (.ref C) a.pos->s2.heap.objs.size<=e->wpAny (model P w) (A.under (.builtin "type.__call__" ⟨.ref C::a.pos,[]⟩)) (call (.ref fI) (.ref e::a.pos))
     (fun r s'=>r=.none/\s'.heap.get? C=some (excClassObj nm q C N bs bm hd sn sub ab col dd k0 k1 k2 k3 k5 nid)/\(∃a0 dx,s'.heap.get? e=some (excObj C a0 dx))/\E (.ref e) s') E {s2 with heap:=h' }) E s1) E s) :
  wpAny (model P w) A (exec (.Raise (some (.Call (.Name x np) args [] cpos)) none pos) env) Q E s:=by
 rw[arm_exec_Raise]
 have z:wpAny (model P w) A (eval (.Call (.Name x np) args [] cpos) env) (fun v s1=>∃e a0 dx,v=.ref e/\s1.heap.get? C=some (excClassObj nm q C N bs bm hd sn sub ab col dd k0 k1 k2 k3 k5 nid)/\s1.heap.get? e=some (excObj C a0 dx)/\E (.ref e) s1) E s:=by
  refine wpAny_Call_ofName (wpAny_mono h (fun f s1 y=>?_) fun _ _ y=>y)
  obtain⟨rfl,y⟩:=y
  unfold callWith
  refine wpAny_bind (wpAny_holding (wpAny_mono y (fun a s2 y=>wpAny_bind (wpAny_standAt ?_)) fun _ _ y=>y))
  obtain⟨apos,akw⟩:=a
  obtain⟨hkw,hlen,hC,hN,hf,TT,y⟩:=y
  obtain rfl:akw=[]:=hkw
  obtain⟨hp,g,d,tk,os⟩:=s2
  simp only[hpl]
  refine wpAny_bind (wpAny_keeperOf_exc hC (wpAny_bind (call_own F hB TT hC hN hi hf hc (fun h' e m l=>wpAny_mono (y h' e m l) (fun r s' y=>⟨y.1,wpAny_bind (wpAny_holding (wpAny_point (wpAny_pure ?_)))⟩) fun _ _ y=>y) hlen)))
  obtain⟨_,hC',⟨a0,dx,he⟩,hE⟩:=y
  exact⟨e,a0,dx,rfl,hC',he,hE⟩
 first
  | exact wpAny_bind (wpAny_standAt (raise_made hb hh (wpAny_bind (wpAny_mono z (fun v s3 y=>wpAny_bind (wpAny_standAt (wpAny_pure y))) fun _ _ y=>y))))
  | (simp only[evalOpt,Option.map];exact wpAny_bind (wpAny_standAt (raise_made hb hh (wpAny_bind (wpAny_mono z (fun v s3 y=>wpAny_bind (wpAny_standAt (wpAny_pure y))) fun _ _ y=>y)))))
end
open Builtin Builtin.ObjectAttr
section
variable {P:Program} {w:World} {A:Around} {E:Value->Shared->Prop} {s:Shared} {K:PySem.W.Frag} {x C:Addr} {ox:Obj} {name:Str} {v:Value} {cd:ClassData} {rs:List Addr}
abbrev mroVE:List Value:=[.type "ValueError", .type "Exception", .type "BaseException", .type "object"]
theorem refuse_refs(self:Value):∀rs:List Addr,refuseLoop self "__setattr__" (rs.map Value.ref++mroVE)=pure ()
 | []=>PySem.F.store_ValueError.passes self
 | c::r=>by rw[List.map_cons,List.cons_append,refuseLoop_ref];exact refuse_refs self r
theorem inst_new{a0:Value}(hx:s.heap.get? x=some (excObj C a0 none)):PySem.W.InstAt s.heap x (excObj C a0 none) C none:=⟨hx,rfl,rfl,trivial⟩
theorem osa_exc{R:Result->Shared->Prop}{tk:Tok}{a0:Value}(X:K.In s.heap)(hx:s.heap.get? x=some (excObj C a0 none))
  (hna:PySem.W.findIn K (.ref C) name=some none) (hc:PySem.W.clsIn K C=some cd) (hm:cd.mro=rs.map Value.ref++mroVE) (hh:cd.hasDict=true)
  (h:∀h' t',h'.get? x=some (excObj C a0 (some s.heap.objs.size))->h'.Ns1 s.heap.objs.size (fun y=>if y=name then some v else none)->(∀b o,b≠x->s.heap.get? b=some o->h'.get? b=some o)->R (.ok (.ret .none)) {s with heap:=h',toks:=t' }) :
  codeAny (model P w) A (.call (.builtin "object.__setattr__") ⟨[.ref x,.str name tk,v],[]⟩) R s:=by
 have SF:=PySem.F.store_object
 have I:=inst_new hx
 have ne:cd.mro.isEmpty=false:=by rw[hm];cases rs<;>rfl
 have has:cd.mro.contains (.type "object")=true:=by rw[hm];simp
 have sub:PySem.W.Looks (model P w) s.heap (isInstance (.ref x) (.type "object")) true:=I.type.andThen (PySem.W.looks_mroIn X (by unfold PySem.W.mroIn;rw[hc,Option.bind_some,if_neg (by rw[ne];decide),has]))
 refine codeAny_call_builtin SF.slot.plain SF.entry (@PySem.W.check_slot (model P w) _ _ s "object.__setattr__" "object" "__setattr__" (.ref x) [.str name tk,v] [] _ SF.kind SF.split sub (SF.args (.ref x) (.str name tk) v) ?_)
 have hmr:PySem.W.Looks (model P w) s.heap (mroOf (.ref C)) cd.mro:=(PySem.W.looks_clsIn X hc).andThen .now
 rw[PySem.W.osa_eq,refuse_eq]
 refine wpAny_bind (wpAny_bind (I.type.here (wpAny_bind (hmr.here ?_))))
 rw[hm,refuse_refs]
 refine wpAny_pure (wpAny_bind (I.type.here (wpAny_bind ((PySem.W.looks_findIn X hna).here (wpAny_bind (wpAny_pure ?_))))))
 dsimp only
 unfold storeInOwnDict
 refine wpAny_bind (wpAny_pure ?_)
 show wpAny _ _ (if (Value.ref C==Value.type "module")=true then _ else _) _ _ _
 rw[if_neg (by simp)]
 refine wpAny_bind ?_
 show wpAny _ _ (instanceDict x true) _ _ _
 unfold instanceDict
 refine wpAny_bind (wpAny_loadPart hx ?_)
 dsimp only
 refine wpAny_bind ((PySem.W.looks_clsIn X hc).here ?_)
 rw[hh,if_neg (by decide),if_neg (by simp[typeHasDict])]
 have ns:x≠s.heap.objs.size:=Nat.ne_of_lt (Heap.lt_size hx)
 have hx1:(s.heap.push {cls:=.type "dict", data:=.dict #[]}).get? x=some (excObj C a0 none):=Heap.get?_push_of_some _ hx
 have at1:=Heap.get?_update_self (fun o:Obj=>{cls:=o.cls,dict:=some s.heap.objs.size,data:=o.data,slots:=o.slots}) hx1 rfl
 have dat:((s.heap.push {cls:=.type "dict", data:=.dict #[]}).update x fun o=>{cls:=o.cls,dict:=some s.heap.objs.size,data:=o.data,slots:=o.slots}).get? s.heap.objs.size=some {cls:=.type "dict", data:=.dict #[]} :=
  (Heap.get?_update_other _ _ ns).trans (Heap.get?_push_size _ rfl)
 refine wpAny_bind (wpAny_alloc (wpAny_bind (wpAny_update hx1 ?_)))
 refine wpAny_pure ?_
 show wpAny _ _ (storeInDict s.heap.objs.size (.str name tk) name v) _ _ _
 unfold storeInDict newKeyGuard
 refine wpAny_bind (wpAny_pure (wpAny_bind (wpAny_nsSet1 (m:=fun _=>none) (Heap.Ns1.of_empty ⟨_,#[],_,dat,rfl,fun _ z=>absurd z (by simp),fun _=>rfl⟩) fun h' n1 sb=>?_)))
 obtain⟨oD,es,ep,e1,e2,e3⟩:=n1.count (Within.cons name v Within.nil)
 refine wpAny_bind (wpAny_lookBehind e1 (by rw[e2];exact pastItsLine_dict (Nat.le_trans e3 (by rw[List.length_cons,List.length_nil,sizeLine_eq];omega))) ?_)
 refine wpAny_pure ?_
 refine h h' _ ?_ n1 fun b o nb q=>?_
 ·exact(sb.2 x ns).trans at1
 ·exact(sb.2 b (Nat.ne_of_lt (Heap.lt_size q))).trans ((Heap.get?_update_other _ _ (Ne.symm nb)).trans (Heap.get?_push_of_some _ q))
theorem set_exc{Q:Unit->Shared->Prop}{a0:Value}(X:K.In s.heap)(hx:s.heap.get? x=some (excObj C a0 none)) (hs:PySem.W.findIn K (.ref C) "__setattr__" = some (some (.builtin "object.__setattr__")))
  (hna:PySem.W.findIn K (.ref C) name=some none) (hc:PySem.W.clsIn K C=some cd) (hm:cd.mro=rs.map Value.ref++mroVE) (hh:cd.hasDict=true)
  (h:∀h' t',h'.get? x=some (excObj C a0 (some s.heap.objs.size))->h'.Ns1 s.heap.objs.size (fun y=>if y=name then some v else none)->(∀b o,b≠x->s.heap.get? b=some o->h'.get? b=some o)->Q () {s with heap:=h',toks:=t' }) :
  wpAny (model P w) A (setAttr (.ref x) name v) Q E s :=
 PySem.W.set_plain X (inst_new hx) hs (osa_exc (s:={s with toks:=s.toks + 1}) X hx hna hc hm hh h)
end
section
variable {P:Program} {w:World} {A:Around} {E:Value->Shared->Prop} {s:Shared} {K:PySem.W.Frag} {x C:Addr} {ox:Obj} {od:Option Obj} {name:Str} {v:Value} {cd:ClassData} {rs:List Addr}
theorem slot_ga:PySem.Slot "ValueError" "__getattribute__" "BaseException.__getattribute__" := PySem.F.excAttr_ValueError.ga
theorem get_exc{Q:Value->Shared->Prop}{expr:Bool}(X:K.In s.heap)(I:PySem.W.InstAt s.heap x ox C od) (hga:PySem.W.findIn K (.ref C) "__getattribute__" = some (some (.builtin "BaseException.__getattribute__")))
  (hk:PySem.W.findIn K (.ref C) "__getattr__" = some none) (hc:PySem.W.clsIn K C=some cd) (hm:cd.mro=rs.map Value.ref++mroVE) (hf:PySem.W.findObj K C od name=some (.value v)) (hh:PySem.W.handedIn v=true)
  (h:Q v {s with toks:=s.toks + 1}):wpAny (model P w) A (getAttr (.ref x) name expr) Q E s:=by
 have ht:PySem.W.Looks (model P w) s.heap (typeOf (.ref x)) (.ref C):=I.type
 have ne:cd.mro.isEmpty=false:=by rw[hm];cases rs<;>rfl
 have has:cd.mro.contains (.type "BaseException")=true:=by rw[hm];simp
 have sub:PySem.W.Looks (model P w) s.heap (isInstance (.ref x) (.type "BaseException")) true:=I.type.andThen (PySem.W.looks_mroIn X (by unfold PySem.W.mroIn;rw[hc,Option.bind_some,if_neg (by rw[ne];decide),has]))
 have hb:PySem.W.Looks (model P w) s.heap (hookBefore (.ref C)) none:=PySem.W.looks_hook X (by rw[show onTheHeap (Value.ref C)=true from rfl,if_pos rfl];exact hk)
 have lf:=PySem.W.looks_find (M:=model P w) X I hf
 refine wpAny_bind (wpAny_mkText (wpAny_holding (wpAny_bind (ht _ _ _ _ (fun _ _ e=>e) (wpAny_bind (PySem.W.looks_findIn X hga _ _ _ _ (fun _ _ e=>e) ?_))))))
 dsimp only
 rw[show (onTheHeap (.ref C)&&Value.builtin "BaseException.__getattribute__" == Value.builtin "object.__getattribute__")=false from by rw[show (Value.builtin "BaseException.__getattribute__" == Value.builtin "object.__getattribute__")=false from by decide +kernel,Bool.and_false],if_neg (by decide)]
 refine wpAny_bind (hb _ _ _ _ (fun _ _ e=>e) (wpAny_bind (wpAny_attempt (wpAny_holding ?_))))
 unfold callGetattribute
 rw[show (expr&&onTheHeap (Value.builtin "BaseException.__getattribute__"))=false from Bool.and_false _,if_neg (by decide)]
 unfold boundAndCalled
 rw[slot_ga.bind]
 refine wpAny_bind (wpAny_pure ?_)
 show wpAny _ _ (call (.builtin "BaseException.__getattribute__") [.ref x,.str name s.toks]) _ _ _
 refine wpAny_call (codeAny_call_builtin slot_ga.plain PySem.F.entry_bexc_ga ?_)
 refine @PySem.W.check_slot (model P w) _ _ {s with toks:=s.toks + 1} "BaseException.__getattribute__" "BaseException" "__getattribute__" (.ref x) [.str name s.toks] [] _ (by decide +kernel) (by decide +kernel) sub (PySem.F.args_bexc_ga (.ref x) (.str name s.toks)) ?_
 refine wpAny_bind (wpAny_pure (wpAny_bind (wpAny_pure (wpAny_bind (ht _ _ _ _ (fun _ _ e=>e) (wpAny_bind (lf _ _ _ _ (fun _ _ e=>e) (wpAny_pure ?_))))))))
 show wpAny _ _ (handedOut v) _ _ _
 rw[PySem.W.handedOut_of hh]
 exact wpAny_pure h
end
section
variable {P:Program} {w:World} {A:Around} {E:Value->Shared->Prop} {h:Heap} {g:Array GenState} {d:Drawn} {t:Nat} {os:OsState}
variable {nm q:Str} {C N e t0:Addr} {bs bm bB:List Value} {hd ab:Bool} {sn:List Str} {sub:List Value} {col:Option Bool} {dd:Option Addr} {k0 k1 k2 k3 k5:Option Value} {B nid iid:String} {u:Value}
theorem init_call(F:ExcBaseFacts B nid iid bB)(TT:OwnTail h bB bm){Q:Value->Shared->Prop}(hC:h.get? C=some (excClassObj nm q C N bs bm hd sn sub ab col dd k0 k1 k2 k3 k5 nid))(he:h.get? e=some (excObj C (.ref t0) none))
  (hq:∀h',h'.get? e=some (excObj C (.ref h.objs.size) none)->(∀b o,b≠e->h.get? b=some o->h'.get? b=some o)->Q .none ⟨h',g,d,t,os⟩) :
  wpAny (model P w) A (call (.builtin iid) [.ref e,u]) Q E ⟨h,g,d,t,os⟩:=by
 refine wpAny_call (codeAny_call_builtin F.init.plain F.initEntry (wpAny_check_init_subU F TT hC he rfl ?_))
 wp_walk
 have e1:(h.push {cls:=.type "tuple", data:=.seq #[u]}).get? e=some (excObj C (.ref t0) none):=Heap.get?_push_of_some _ he
 refine hq _ (Heap.get?_update_self _ e1 rfl) fun b o n z=>?_
 exact(Heap.get?_update_other _ _ (Ne.symm n)).trans (Heap.get?_push_of_some _ z)
end
section
variable {X:Cx} {pins:List (Addr×Obj)} {σ:St} {H H':Hp} {s s':Shared} {e:Addr} {oe:Obj}
abbrev opCx(X:Cx)(e:Addr):Cx:={X with ex:=[e],xe:=fun _ _=>False}
theorem Inv.openE(I:Inv X [] σ H s)(hex:X.ex=[])(hpn:X.pn=[])(hfn:∀x,X.fn x=true)(h0:X.s₀.heap.get? e=some oe)(hs:s.heap.get? e=some oe)(hb:X.base.get? e=none)(hH:H e=none)(hfs:e∉X.fs)
  (hdc:∀v,oe.data ≠ .cell v):Inv (opCx X e) [(e,oe)] σ H s:=by
 have lt:=Heap.lt_size h0
 have nl:e≠X.env.locals:=Nat.ne_of_lt (Nat.lt_of_lt_of_le lt I.ok.above)
 have nx:∀b:Addr,b∉X.ex:=fun b=>by rw[hex];simp
 have ok:=I.ok
 refine⟨⟨ok.mod,ok.kind,ok.glob,ok.blt,ok.above,ok.inj,ok.has,ok.cab,ok.hd,ok.frames,ok.stk,fun b z=>?_,ok.bs,ok.bsz,fun b o q z=>?_,fun b z=>?_,ok.funs,ok.frf⟩,I.os,I.bare,
  ⟨fun b o q n hf _=>I.base.keep b o q n hf (nx b),fun b o q n hf _=>I.base.slot b o q n hf (nx b),fun b o q n _=>I.base.free b o q n (nx b),fun b o q _=>I.base.there b o q (nx b),I.base.tups,I.base.frzs,I.base.tbls⟩,
  I.loc,I.cell,I.free,I.freeC,fun p z=>?_,I.hok,I.len⟩
 ·obtain rfl:b=e:=List.mem_singleton.mp z
  exact⟨nl,fun x c q z=>by subst z;exact absurd (Nat.lt_of_lt_of_le lt (ok.cab x c (hfn x) q)) (Nat.lt_irrefl _)⟩
 ·obtain rfl:b=e:=List.mem_singleton.mp z
  rw[hb]at q
  cases q
 ·obtain rfl:b=e:=List.mem_singleton.mp z
  exact hfs
 ·have z:p∈X.pn++[(e,oe)]:=z
  rw[hpn,List.nil_append,List.mem_singleton]at z
  subst z
  exact⟨hs,hH,nl,hfs,hdc⟩
theorem Inv.made{C:Value}{us:List Value}{h1:Heap}(I:Inv X pins σ H s)(mk:Heap.MadeExcOf s.heap h1 e C us)(hl:s.heap.objs.size<=e)(ho:s'.os=s.os)(u:Un (frs X.stack) [e] H H' h1 s'.heap)(hok:HOk X.prog X.w H' s'.heap)(hg:AllBare s'.gens):Inv X pins σ H' s':=by
 have I1:Inv X pins σ H {s with heap:=h1,toks:=s.toks}:=I.kept mk.keeps
 refine I1.call' (ch:=[e]) ho u hok hg fun b z=>?_
 obtain rfl:b=e:=List.mem_singleton.mp z
 refine⟨.inr (Nat.le_trans I.sz hl),fun q=>?_,fun x c q z=>?_,fun p hp z=>?_⟩
 ·have:=I.lt
  rw[← q]at this
  exact absurd (Nat.lt_of_lt_of_le this hl) (Nat.lt_irrefl _)
 ·obtain⟨v,o,e1,_⟩:=I.cell x c q
  subst z
  exact absurd (Nat.lt_of_lt_of_le (Heap.lt_size e1) hl) (Nat.lt_irrefl _)
 ·have:=(I.pin p hp).1
  rw[z]at this
  exact absurd (Nat.lt_of_lt_of_le (Heap.lt_size this) hl) (Nat.lt_irrefl _)
end
section
theorem run_open{CX:CXT}{P:Program}{w:World}{K:PySem.W.Frag}{mg:Str->Option Value}{base:Heap}{k:Nat}{f e:Addr}{name qual:Str}{params:Arguments}{body:List Stmt}{scope:Scope}{dV kV doc pm cdv ct oc:Value}{an od:Option Addr}
  {osl:Array (Option Value)} {N ps:List Str} {A:Around} {outer:List Env} {s:Shared} {H:Hp} {args:Args} {us:List Value} {vs:List V} {E:XK} {oe:Obj} {R:Result->Shared->Prop}
  (lk:K.lookup f=some ⟨oc,od,.func (PySem.W.fnOf name qual params body scope dV kV doc pm an cdv ct),osl⟩) (hcd:PySem.W.codeIn K cdv qual=true) (S:FnScope N ps scope) (hr:Room (k + 1) A) (e0:Env0 P w K mg base A outer s H)
  (hb:BindsTo s (PySem.W.fnOf name qual params body scope dV kV doc pm an cdv ct) args (ps.zip us)) (r:Vals vs us) (hl:vs.length=ps.length) (he:s.heap.get? e=some oe) (hbe:base.get? e=none) (hHe:H e=none) (hfe:e∉frs outer) (hdc:∀v,oe.data ≠ .cell v)
  (hbody:∀s1,Inv (opCx (cxOf CX P w K mg base N qual scope f cdv A outer s H E) e) [(e,oe)] (start N vs) H s1 →
   wpAny (model P w) (A.deeper (envOfC qual scope s.heap.objs.size f cdv)) (execs body (envOfC qual scope s.heap.objs.size f cdv)) (fun fl s'=>fl=.next/\R (.ok (.ret .none)) s') (fun _ _=>False) s1) :
  codeAny (model P w) A (.call (.ref f) args) R s:=by
 have KX:K.In s.heap:=e0.mod.kin.keeps fun b o z=>(e0.bs b o z).1
 have lim:s.heap.NoLimit:=e0.mod.nolimit.keeps fun b o z=>(e0.bs b o z).1
 refine codeAny_call_function hr.depth (KX _ _ lk) rfl S.co S.gen rfl (PySem.W.codeRec_of KX hcd) (hb _ _ _ _ ?_)
 refine wpAny_newFunctionEnv_cells S.kind ?_ fun env hE s1 x=>?_
 ·rintro ⟨n,v⟩ hy
  rcases S.par n (List.of_mem_zip hy).1 with q|q
  ·exact .inl q
  ·exact .inr ⟨q,PySem.W.cellsFrom_some _ _ _ (.inl q)⟩
 subst hE
 refine⟨lim.keeps x.toInCall.keep,codeAny_func ?_⟩
 have I:Inv (cxOf CX P w K mg base N qual scope f cdv A outer s H E) [] (start N vs) H s1:=inv_start S hr.hd e0 hl r x
 have J:=Inv.openE (e:=e) I rfl rfl (fun _=>rfl) he (x.toInCall.keep _ _ he) hbe hHe hfe hdc
 refine wpAny_mono (hbody s1 J) (fun fl s' z=>?_) fun _ _ z=>z.elim
 obtain⟨rfl,z⟩:=z
 exact z
end
def txtV:V->Str
 | .int i=>Str.ofString (toString i)
 | .non => "None"
 | .str x=>reprText x
 | _=>Str.empty
def Says:V->Prop
 | .int i=>i.natAbs.log2 < 1920
 | .non=>True
 | .str x=>(reprText x).length<=sizeLine
 | _=>False
section
variable {P:Program} {w:World} {A:Around} {E:Value->Shared->Prop} {s:Shared} {env:Env} {value:Expr} {m:Str} {i:Int} {v:V} {j:Nat} {p1 p3 pos:Pos} {Q:Value->Shared->Prop}
theorem repr_any{u:Value}(sv:Says v)(r:RelV v u)(h:∀t tk,Q (.str (txtV v) t) {s with toks:=tk}):wpAny (model P w) A (pyReprObj u) Q E s:=by
 cases v with
 | int i =>
  obtain⟨t,rfl⟩:=r
  exact wpAny_pyReprObj_gives (hx:=int_text_fits sv) (typeIs_int _ i t) PySem.F.slot_int_repr PySem.F.entry_int_repr (PySem.F.args_int_repr_1 _) (gives_int_repr i t sv) (h _ _)
 | non =>
  obtain rfl:u=.none:=r
  exact wpAny_pyReprObj_gives (typeIs_none s) PySem.F.slot_NoneType_repr PySem.F.entry_NoneType_repr (PySem.F.args_NoneType_repr_1 _) gives_none_repr (h _ _) (hx:=by decide)
 | str x =>
  obtain⟨t,rfl⟩:=r
  exact wpAny_pyReprObj_gives (typeIs_str s x t) PySem.F.slot_str_repr PySem.F.entry_str_repr (PySem.F.args_str_repr_1 _) (gives_str_repr x t) (h _ _) (hx:=sv)
 | _=>exact sv.elim
theorem txt_fits(sv:Says v):(txtV v).length<=sizeLine:=by
 cases v with
 | int i=>exact int_text_fits sv
 | non=>exact by decide
 | str x=>exact sv
 | _=>exact sv.elim
theorem fstr_any(sv:Says v)(h1:(Str.empty++m).length<=sizeLine)(h2:(Str.empty++m++txtV v).length<=sizeLine)
  (hv:∀tk,wpAny (model P w) A (eval value env) (fun u s1=>RelV v u/\∀y t' tk,Q (.str y t') {s1 with toks:=tk}) E {s with toks:=tk}) :
  wpAny (model P w) A (eval (.JoinedStr [.Constant (.str m) j p1,.FormattedValue value 114 none p3] pos) env) Q E s:=by
 refine wpAny_JoinedStr ?_
 show wpAny _ _ (eval (.Constant (.str m) j p1) env) _ E s
 refine wpAny_Constant_str ⟨m,_,rfl,h1,?_⟩
 show wpAny _ _ (eval (.FormattedValue value 114 none p3) env) _ E _
 refine wpAny_FormattedValue_repr (wpAny_mono (hv _) (fun u s1 z=>?_) fun _ _ z=>z)
 obtain⟨r,z⟩:=z
 refine repr_any sv r fun t tk=>?_
 refine wpAny_formatField_str (hx:=txt_fits sv) ⟨_,_,rfl,h2,?_⟩ ⟨_,_,rfl,h2,?_⟩
 ·exact⟨h2,z _ _ _⟩
 ·exact⟨h2,z _ _ _⟩
end
section
variable {X:Cx} {σ:St} {H:Hp} {s:Shared} {e C:Addr} {a0:Value} {cd:ClassData} {rs:List Addr}
theorem Inv.wrote{oe:Obj}{h':Heap}{t':Nat}(I:Inv X [(e,oe)] σ H s)(hX:e∈X.ex)(hpn:X.pn=[])(k:∀b o,b≠e->s.heap.get? b=some o->h'.get? b=some o)(ke:∃o,h'.get? e=some o):Inv X [] σ H {s with heap:=h',toks:=t' }:=by
 have I0:Inv X [] σ H s:=⟨I.ok,I.os,I.bare,I.base,I.loc,I.cell,I.free,I.freeC,fun p z=>I.pin p (by rw[List.append_nil]at z;exact List.mem_append_left _ z),I.hok,I.len⟩
 have P:=I.pin (e,oe) (List.mem_append_right _ (List.mem_singleton.mpr rfl))
 have ne:∀b o,H b=some o->b≠e:=by
  rintro b o q rfl
  have:=P.2.1
  rw[q]at this
  cases this
 refine I0.call' (s':={s with heap:=h',toks:=t' }) (ch:=[e]) rfl ⟨fun b o q n hf hx=>k b o (by simpa using hx) q,fun b o q n hf hx=>⟨o.slots,k b o (by simpa using hx) q⟩,fun b o q n hx=>n,fun b o q hx=>⟨o,k b o (by simpa using hx) q⟩,fun _ _ q=>q,fun _ _ _ q=>q,fun b ps q=>⟨#[],by simpa using q⟩⟩
  (hok_objs I.hok fun b o u hb q=>k b u (ne b o hb) q) I.bare fun b z=>?_
 obtain rfl:b=e:=List.mem_singleton.mp z
 refine⟨.inl hX,P.2.2.1,fun x c q=>(I.ok.exf b hX).2 x c q,fun p hp z=>?_⟩
 rw[hpn]at hp
 cases hp
theorem init_set{f x self:Str}{v:V}{p1 p2 p3 pos:Pos}{Q:Flow->Shared->Prop}(hX:e∈X.ex)(hpn:X.pn=[])(I:Inv X [(e,excObj C a0 none)] σ H s){i j:Nat}(n0:X.N[i]?=some self)(v0:Vis X.env.scope self)(s0:σ[i]?=some (some (.ref e)))
  (n1:X.N[j]?=some x) (v1:Vis X.env.scope x) (s1:σ[j]?=some (some v)) (hs:PySem.W.findIn X.K (.ref C) "__setattr__" = some (some (.builtin "object.__setattr__")))
  (hna:PySem.W.findIn X.K (.ref C) f=some none) (hc:PySem.W.clsIn X.K C=some cd) (hm:cd.mro=rs.map Value.ref++mroVE) (hh:cd.hasDict=true)
  (h:∀u s' d,RelV v u->X.s₀.heap.objs.size<=d->s'.heap.get? e=some (excObj C a0 (some d))->s'.heap.Ns1 d (fun y=>if y=f then some u else none)->Inv X [] σ H s'->Q .next s')
  (d0:(self==("__debug__" : Str))=false:=by decide) (c0:(self==("__classdict__" : Str))=false:=by decide) (d1:(x==("__debug__" : Str))=false:=by decide) (c1:(x==("__classdict__" : Str))=false:=by decide)
  (sw:swapsWith (.Name x p3) (some (.Attribute (.Name self p1) f p2)) pos.line X.env=pure false:=by rfl) :
  wpAny (model X.prog X.w) X.A (exec (.Assign [.Attribute (.Name self p1) f p2] (.Name x p3) pos) X.env) Q X.xe s:=by
 refine plainObj_wpAny_Assign_Attribute (thn (pe_var n1 v1 d1 c1 _ s σ H (fun y H1=>y=v/\H1=H) I ⟨v,s1,rfl,rfl⟩) fun u t1 ⟨_,_,I1,r1,e1,e2⟩=>?_) sw
 subst e1 e2
 refine thn (pe_var n0 v0 d0 c0 _ t1 σ _ (fun y H1=>y=.ref e/\H1=_) I1 ⟨_,s0,rfl,rfl⟩) fun ov t2 ⟨_,_,I2,r2,e1,e2⟩=>?_
 subst e1 e2
 obtain rfl:ov=.ref e:=r2
 have he:=(I2.pin (e,_) (List.mem_append_right _ (List.mem_singleton.mpr rfl))).1
 refine set_exc I2.kIn he hs hna hc hm hh fun h' t' q1 q2 q3=>h u _ _ r1 ?_ q1 q2 (TL.Inv.wrote I2 hX hpn q3 ⟨_,q1⟩)
 exact I2.sz
end
section
variable {X:Cx} {σ:St} {H:Hp} {s:Shared} {e C CY:Addr} {mc:Value} {t0:Addr}
def tFs(m:Str)(j:Nat):TE:=fun σ H Q=>∃v:V,σ[j]?=some (some v)/\Says v/\(Str.empty++m).length<=sizeLine/\(Str.empty++m++txtV v).length<=sizeLine/\∀y,Q (.str y) H
theorem pe_fstr{x m:Str}{j k:Nat}{p1 p2 p3 pos:Pos}(n1:X.N[j]?=some x)(v1:Vis X.env.scope x) (d1:(x==("__debug__" : Str))=false:=by decide) (c1:(x==("__classdict__" : Str))=false:=by decide) :
  PE X (.JoinedStr [.Constant (.str m) k p1,.FormattedValue (.Name x p2) 114 none p3] pos) (tFs m j):=by
 intro pins s σ H Q I ⟨v,hs,hi,h1,h2,q⟩
 refine fstr_any hi h1 h2 fun tk=>thn (pe_var n1 v1 d1 c1 pins _ σ H (fun y H1=>y=v/\H1=H) (I.tok tk) ⟨_,hs,rfl,rfl⟩) fun u s1 ⟨_,_,I1,r1,e1,e2⟩=>?_
 subst e1 e2
 exact⟨r1,fun y t' tk=>⟨.str y,_,I1.tok tk,⟨_,rfl⟩,q y⟩⟩
variable {nm q:Str} {N:Addr} {bs bm bB:List Value} {hd ab:Bool} {sn:List Str} {sub:List Value} {col:Option Bool} {dd:Option Addr} {k0 k1 k2 k3 k5:Option Value} {B nid iid:String}
theorem init_up{y x m self:Str}{i j k:Nat}{v:V}{pl:Sem Bool}{p1 p2 p3 p4 p5 p6 p7 p8 p9:Pos}{Q:Flow->Shared->Prop}(F:ExcBaseFacts B nid iid bB)(hC:X.base.get? C=some (excClassObj nm q C N bs bm hd sn sub ab col dd k0 k1 k2 k3 k5 nid))(TT:OwnTail X.base bB bm)
  (hX:e∈X.ex) (hpn:X.pn=[]) (I:Inv X [(e,excObj C (.ref t0) none)] σ H s) (hg:Gl X y) (hmg:X.mg y=some (.ref CY)) (n0:X.N[i]?=some self) (v0:Vis X.env.scope self) (s0:σ[i]?=some (some (.ref e)))
  (n1:X.N[j]?=some x) (v1:Vis X.env.scope x) (s1:σ[j]?=some (some v)) (hz:Says v) (l1:(Str.empty++m).length<=sizeLine) (l2:(Str.empty++m++txtV v).length<=sizeLine)
  (hsp:PySem.W.specialIn X.K (.ref CY) "__getattribute__" = some (some (.builtin "type.__getattribute__"))) (hrd:PySem.W.readsIn X.K CY mc=true) (hfc:PySem.W.findCls X.K (.ref CY) mc "__init__" = some (.val (.builtin iid))) (hhi:PySem.W.handedIn (.builtin iid)=true)
  (h:∀s' t1,Inv X [(e,excObj C (.ref t1) none)] σ H s'->Q .next s')
  (dy:(y==("__debug__" : Str))=false:=by decide) (d0:(self==("__debug__" : Str))=false:=by decide) (c0:(self==("__classdict__" : Str))=false:=by decide) (d1:(x==("__debug__" : Str))=false:=by decide) (c1:(x==("__classdict__" : Str))=false:=by decide)
  (ht:eval (.Call (.Attribute (.Name y p1) "__init__" p2) [.Name self p3,.JoinedStr [.Constant (.str m) k p4,.FormattedValue (.Name x p5) 114 none p6] p7] [] p8) X.env=(do
   let ov ← eval (.Name y p1) X.env
   standAt p2.atName
   let (f,first) ← holding [ov] (getMethod ov "__init__" pl)
   callWith p8 f first (backTo p8 (starEach [.Name self p3,.JoinedStr [.Constant (.str m) k p4,.FormattedValue (.Name x p5) 114 none p6] p7] X.env)) (backToKw p8 (keywordEach [] X.env))):=by rfl) :
  wpAny (model X.prog X.w) X.A (exec (.Expr (.Call (.Attribute (.Name y p1) "__init__" p2) [.Name self p3,.JoinedStr [.Constant (.str m) k p4,.FormattedValue (.Name x p5) 114 none p6] p7] [] p8) p9) X.env) Q X.xe s:=by
 have pa:PA X [.Name self p3,.JoinedStr [.Constant (.str m) k p4,.FormattedValue (.Name x p5) 114 none p6] p7] (tCons (tVar i) (tCons (tFs m j) tNil)):=pa_cons (pe_var n0 v0 d0 c0) (pa_cons (pe_fstr n1 v1 d1 c1) pa_nil (star1 rfl)) (star1 rfl)
 refine wpAny_Expr_any ?_ I.quiet (by rfl)
 refine PySem.W.methodCall_KW (pl:=pl) (ld_glob I hg hmg ?_ dy) ht
 refine PySem.W.method_cls I.kIn hsp (PySem.W.cls_value I.kIn hrd hfc hhi ?_)
 refine PyProof.Rows.callWith_builtin1 (thn (pa p8 _ _ σ H (fun vs H1=>∃w,vs=[.ref e,.str w]/\H1=H) (I.tok _) ⟨_,s0,v,s1,hz,l1,l2,fun w=>⟨w,rfl,rfl⟩⟩) fun us s2 ⟨vs,H1,I2,r,w,e1,e2⟩=>?_) (star1 rfl) (stars rfl)
 subst e1 e2
 obtain⟨u,u',rfl,r1,r2⟩:=vals2 r
 obtain rfl:u=.ref e:=r1
 have he:=(I2.pin (e,_) (List.mem_append_right _ (List.mem_singleton.mpr rfl))).1
 obtain⟨hp,g,d,tk,os⟩:=s2
 refine init_call F (TT.keeps I2.bk) (I2.bk _ _ hC) he fun h' q1 q2=>h _ hp.objs.size ?_
 have J:=TL.Inv.wrote (t':=tk) I2 hX hpn q2 ⟨_,q1⟩
 have P:=I2.pin (e,_) (List.mem_append_right _ (List.mem_singleton.mpr rfl))
 refine⟨J.ok,J.os,J.bare,J.base,J.loc,J.cell,J.free,J.freeC,fun p z=>?_,J.hok,J.len⟩
 rw[hpn,List.nil_append,List.mem_singleton]at z
 subst z
 exact⟨q1,P.2.1,P.2.2.1,P.2.2.2.1,fun v z=>by cases z⟩
end
section
variable {Y:Cx} {pins:List (Addr×Obj)} {σ:St} {H:Hp} {s:Shared} {e C CY fI:Addr} {mc:Value} {cd:ClassData} {rs:List Addr}
variable {nm q:Str} {N:Addr} {bs bm bB:List Value} {hd ab:Bool} {sn:List Str} {sub:List Value} {col:Option Bool} {dd:Option Addr} {k0 k1 k2 k3 k5:Option Value} {B nid iid:String}
theorem init_run{name qual:Str}{params:Arguments}{scope:Scope}{dV kV doc pm cdv ct oc:Value}{an od:Option Addr}{osl:Array (Option Value)}{y f m self x:Str}{pl:Env->Sem Bool}{p1 p2 p3 p4 p5 p6 p7 p8 p9 r1 r2 r3 r4:Pos}{k j:Nat}{v:V}{u:Value}{h1:Heap}{A:Around}{E:Value->Shared->Prop}{Q:Value->Shared->Prop}
  (I:Inv Y pins σ H s) (mk:Heap.MadeExcOf s.heap h1 e (.ref C) [u]) (hle:s.heap.objs.size<=e) (hz:RelV v u) (zz:Says v)
  (lk:Y.K.lookup fI=some ⟨oc,od,.func (PySem.W.fnOf name qual params
   [.Expr (.Call (.Attribute (.Name y p1) "__init__" p2) [.Name self p3,.JoinedStr [.Constant (.str m) k p4,.FormattedValue (.Name x p5) 114 none p6] p7] [] p8) p9,.Assign [.Attribute (.Name self r1) f r2] (.Name x r3) r4] scope dV kV doc pm an cdv ct),osl⟩)
  (hcd:PySem.W.codeIn Y.K cdv qual=true) (S:FnScope [self,x] [self,x] scope) (v0:Vis scope self) (v1:Vis scope x) (hg:scope.names.lookup y=some .globalImplicit) (hr:Room (j + 1) A) (hA:Env0 Y.prog Y.w Y.K Y.mg Y.base A Y.stack {s with heap:=h1} H)
  (F:ExcBaseFacts B nid iid bB) (hC:Y.base.get? C=some (excClassObj nm q C N bs bm hd sn sub ab col dd k0 k1 k2 k3 k5 nid)) (TT:OwnTail Y.base bB bm) (hmg:Y.mg y=some (.ref CY))
  (l1:(Str.empty++m).length<=sizeLine) (l2:(Str.empty++m++txtV v).length<=sizeLine)
  (hsp:PySem.W.specialIn Y.K (.ref CY) "__getattribute__" = some (some (.builtin "type.__getattribute__"))) (hrd:PySem.W.readsIn Y.K CY mc=true) (hfc:PySem.W.findCls Y.K (.ref CY) mc "__init__" = some (.val (.builtin iid))) (hhi:PySem.W.handedIn (.builtin iid)=true)
  (hs:PySem.W.findIn Y.K (.ref C) "__setattr__" = some (some (.builtin "object.__setattr__"))) (hna:PySem.W.findIn Y.K (.ref C) f=some none) (hc:PySem.W.clsIn Y.K C=some cd) (hm:cd.mro=rs.map Value.ref++mroVE) (hh:cd.hasDict=true)
  (hb:BindsTo {s with heap:=h1} (PySem.W.fnOf name qual params
   [.Expr (.Call (.Attribute (.Name y p1) "__init__" p2) [.Name self p3,.JoinedStr [.Constant (.str m) k p4,.FormattedValue (.Name x p5) 114 none p6] p7] [] p8) p9,.Assign [.Attribute (.Name self r1) f r2] (.Name x r3) r4] scope dV kV doc pm an cdv ct) ⟨[.ref e,u],[]⟩ ([self,x].zip [.ref e,u]))
  (h:∀s' t1 d u',RelV v u'->s.heap.objs.size<=d->s'.heap.get? e=some (excObj C (.ref t1) (some d))->s'.heap.Ns1 d (fun a=>if a=f then some u' else none)->Inv Y pins σ H s'->Q .none s')
  (dy:(y==("__debug__" : Str))=false:=by decide) (d0:(self==("__debug__" : Str))=false:=by decide) (c0:(self==("__classdict__" : Str))=false:=by decide) (d1:(x==("__debug__" : Str))=false:=by decide) (c1:(x==("__classdict__" : Str))=false:=by decide)
  (ht:∀env:Env,eval (.Call (.Attribute (.Name y p1) "__init__" p2) [.Name self p3,.JoinedStr [.Constant (.str m) k p4,.FormattedValue (.Name x p5) 114 none p6] p7] [] p8) env=(do
   let ov ← eval (.Name y p1) env
   standAt p2.atName
   let (f,first) ← holding [ov] (getMethod ov "__init__" (pl env))
   callWith p8 f first (backTo p8 (starEach [.Name self p3,.JoinedStr [.Constant (.str m) k p4,.FormattedValue (.Name x p5) 114 none p6] p7] env)) (backToKw p8 (keywordEach [] env))):=by intro _;rfl)
  (sw:∀env:Env,swapsWith (.Name x r3) (some (.Attribute (.Name self r1) f r2)) r4.line env=pure false:=by intro _;rfl) :
  wpAny (model Y.prog Y.w) A (call (.ref fI) [.ref e,u]) Q E {s with heap:=h1}:=by
 obtain⟨t0,he,_,_⟩:=mk.there
 have nb:Y.base.get? e=none:=by
  cases w:Y.base.get? e with
  | none=>rfl
  | some o =>
   have:=I.bk e o w
   rw[mk.new]at this
   cases this
 have nH:H e=none:=by
  cases w:H e with
  | none=>rfl
  | some o =>
   obtain⟨b,hb⟩:=objOk_some (I.hok e o w)
   rw[mk.new]at hb
   cases hb
 have nf:e∉frs Y.stack:=fun w=>by
  obtain⟨_,o,q,_⟩:=I.stack.mem w
  rw[mk.new]at q
  cases q
 refine wpAny_call (run_open (CX:=fun _ _ _ _ _ _=>False) (E:=fun _ _ _=>False) lk hcd S hr hA hb (vs:=[.ref e,v]) (.cons rfl (.cons hz .nil)) rfl he nb nH nf (fun v w=>by cases w) fun s1 J=>?_)
 refine wpAny_execs_cons (init_up (X:=opCx (cxOf (fun _ _ _ _ _ _=>False) Y.prog Y.w Y.K Y.mg Y.base [self,x] qual scope fI cdv A Y.stack {s with heap:=h1} H fun _ _ _=>False) e) (t0:=t0) (pl:=pl _) F hC TT (List.mem_singleton.mpr rfl) rfl J (i:=0) (j:=1) hg hmg rfl v0 rfl rfl v1 rfl zz l1 l2 hsp hrd hfc hhi (fun s2 t1 J2=>?_) dy d0 c0 d1 c1 (ht _))
 refine wpAny_execs_cons (init_set (X:=opCx (cxOf (fun _ _ _ _ _ _=>False) Y.prog Y.w Y.K Y.mg Y.base [self,x] qual scope fI cdv A Y.stack {s with heap:=h1} H fun _ _ _=>False) e) (List.mem_singleton.mpr rfl) rfl J2 (i:=0) (j:=1) rfl v0 rfl rfl v1 rfl hs hna hc hm hh (fun u' s3 d ru ld q1 q2 J3=>?_) d0 c0 d1 c1 (sw _))
 refine wpAny_execs_nil ⟨rfl,?_⟩
 refine h s3 t1 d u' ru ?_ q1 q2 (TL.Inv.made I mk hle J3.os J3.base J3.hok J3.bare)
 exact Nat.le_trans hle (Nat.le_trans (Nat.le_of_lt (Heap.lt_size he)) ld)
end
section
variable {X:Cx} {pins:List (Addr×Obj)} {σ:St} {H:Hp} {s:Shared} {C fI N:Addr}
variable {nm q:Str} {bs bm bB:List Value} {hd ab:Bool} {sn:List Str} {sub:List Value} {col:Option Bool} {dd:Option Addr} {k0 k1 k2 k3 k5:Option Value} {B nid iid:String} {mN:Str->Option Value} {oI:Obj}
theorem raise_at{c:Str}{ea:Expr}{ta:TE}{np cpos pos:Pos}{Q:Flow->Shared->Prop}{P:V->Hp->Prop}(F:ExcBaseFacts B nid iid bB)(hB:bB.contains (.type B)=true) (hbE:bm.contains (.type "BaseException")=true)
  (hC:X.base.get? C=some (excClassObj nm q C N bs bm hd sn sub ab col dd k0 k1 k2 k3 k5 nid)) (hN:X.base.Ns N mN) (hi:mN "__init__" = some (.ref fI)) (hf:X.base.get? fI=some oI) (hcl:oI.cls=.type "function") (TT:OwnTail X.base bB bm)
  (I:Inv X pins σ H s) (hca:X.calm=true) (hg:Gl X c) (hmg:X.mg c=some (.ref C)) (pa1:PE X ea ta) (hs1:starEach [ea] X.env=(false,eval ea X.env)::starEach [] X.env) (hsp:(backTo cpos (starEach [ea] X.env)).any (·.1)=false) (ht:ta σ H P)
  (h:∀s2 v u h' e H2,Inv X pins σ H2 s2->P v H2->RelV v u->Heap.MadeExcOf s2.heap h' e (.ref C) [u]->s2.heap.objs.size<=e->wpAny (model X.prog X.w) (X.A.under (.builtin "type.__call__" ⟨[.ref C,u],[]⟩)) (call (.ref fI) [.ref e,u])
   (fun r s'=>r=.none/\(∃t1 d,s'.heap.get? e=some (excObj C (.ref t1) (some d)))/\Inv X pins σ H2 s'/\X.xe (.ref e) s') X.xe {s2 with heap:=h' })
  (dc:(c==("__debug__" : Str))=false:=by decide) :
  wpAny (model X.prog X.w) X.A (exec (.Raise (some (.Call (.Name c np) [ea] [] cpos)) none pos) X.env) Q X.xe s:=by
 refine raise_own (C:=C) (nm:=nm) (q:=q) (N:=N) (bs:=bs) (bm:=bm) (hd:=hd) (sn:=sn) (sub:=sub) (ab:=ab) (col:=col) (dd:=dd) (k0:=k0) (k1:=k1) (k2:=k2) (k3:=k3) (k5:=k5) F hB hbE (I.ok.hd hca) hsp hi hcl (ld_glob I hg hmg ⟨rfl,?_⟩ dc)
 have pa:PA X [ea] (tCons ta tNil):=pa_cons pa1 pa_nil hs1
 have y:=pa cpos pins s σ H (fun vs H1=>match vs with|[v]=>P v H1|_=>False) I ht
 rw[hs1]at y ⊢
 refine Calls.evalArgs_plain (wpAny_mono y (fun us s2 w=>?_) fun _ _ w=>w)
 obtain⟨vs,H1,I1,r,hP⟩:=w
 obtain⟨v,rfl⟩:∃v,vs=[v]:=by
  cases vs with
  | nil=>exact hP.elim
  | cons v l =>
   cases l with
   | nil=>exact⟨v,rfl⟩
   | cons _ _=>exact hP.elim
 obtain⟨u,rfl,r1⟩:=vals1 r
 refine⟨rfl,few (by simp),I1.bk _ _ hC,hN.keeps I1.bk,I1.bk _ _ hf,TT.keeps I1.bk,fun h' e mk le=>wpAny_mono (h s2 v u h' e H1 I1 hP r1 mk le) (fun a s' w=>?_) fun _ _ w=>w⟩
 obtain⟨rfl,⟨t1,d,w1⟩,J,w2⟩:=w
 exact⟨rfl,J.bk _ _ hC,⟨_,_,w1⟩,w2⟩
end
section
variable {X:Cx} {pins:List (Addr×Obj)} {σ:St} {H H':Hp} {s s':Shared} {e C t1:Addr} {dx:Option Addr}
theorem leave_firstD{M:Model}{Q:Unit->Shared->Prop}{E:Value->Shared->Prop}(D:DefCx X)(I:Inv X pins σ H s)(he:s.heap.get? e=some (excObj C (.ref t1) dx))(nH:H e=none)(n0:X.s₀.heap.get? e=none)
  (hQ:∀h2,Fly X.prog X.w X.outer X.H₀ X.s₀ H e (.ref C) {s with heap:=h2}->DAt h2 e dx->Q () {s with heap:=h2}):wpAny M X.A (leaving X.env (.ref e)) Q E s:=by
 have FF:s.heap.FunFrames X.base X.stack:=I.stack
 have fs:=frs_cons D
 have eN:e∉frs X.stack:=fun z=>by
  obtain⟨_,o,q,n⟩:=FF.mem z
  rw[he]at q
  cases q
  exact n _ rfl
 have hin:∀env∈X.stack,∀b,env.frame=some b->b∈e::frs X.stack:=fun env h b hb=>List.mem_cons_of_mem _ (List.mem_filterMap.mpr ⟨env,h,hb⟩)
 obtain⟨B,hB⟩:∃B,B=PySem.W.hideAll s.heap (e::frs X.stack):=⟨_,rfl⟩
 have FH:s.heap.FunFrames B X.stack:=by rw[hB];exact PySem.W.funFrames_hide FF hin
 have hen:B.get? e=none:=by rw[hB];exact PySem.W.hideAll_none _ (List.mem_cons_self ..)
 have sub:∀b o,B.get? b=some o->s.heap.get? b=some o:=fun b o hb=>by rw[hB]at hb;exact PySem.W.of_hideAll _ hb
 have inB:∀b o,s.heap.get? b=some o->b≠e->b≠X.env.locals->b∉frs X.outer->B.get? b=some o:=fun b o q n1 n2 n3=>by
  rw[hB]
  exact PySem.W.hideAll_get _ q (by rw[fs];intro z;rcases List.mem_cons.mp z with z|z;exact n1 z;rcases List.mem_cons.mp z with z|z;exact n2 z;exact n3 z)
 have hfr:X.A.frames=some (X.env::X.outer):=by rw[I.ok.frames,D.stk]
 rw[D.stk]at FH
 refine firstD (a0:=.ref t1) hfr FH D.frame he sub hen rfl rfl rfl fun h2 hL hD=>hQ h2 ?_ hD
 obtain⟨k1,⟨_,_,k2⟩,k3,k4⟩:=hL
 have trk:∀b o u,H b=some o->s.heap.get? b=some u->B.get? b=some u:=fun b o u hb q=>inB b u q (by rintro rfl;rw[nH]at hb;cases hb) (by rintro rfl;rw[I.free]at hb;cases hb) (fun z=>by
  have:=I.stkFree b (by rw[fs];exact List.mem_cons_of_mem _ z)
  rw[hb]at this
  cases this)
 have oldL:∀b o,X.s₀.heap.get? b=some o->b≠X.env.locals:=fun b o q z=>by
  have l1:=Heap.lt_size q
  rw[z]at l1
  exact absurd (Nat.lt_of_lt_of_le l1 I.ok.above) (Nat.lt_irrefl _)
 have oldE:∀b o,X.s₀.heap.get? b=some o->b≠e:=by
  rintro b o q rfl
  rw[n0]at q
  cases q
 have nox:∀b:Addr,b∉X.ex:=fun b=>by rw[D.ex];simp
 have frm:∀b,b∈frs X.outer->∀o,s.heap.get? b=some o->∃sl,h2.get? b=some {o with slots:=sl}:=fun b hf o q=>by
  have hb:b∈frs X.stack:=by rw[fs];exact List.mem_cons_of_mem _ hf
  obtain⟨_,ob,eb,nf⟩:=FF.mem hb
  rw[q]at eb
  cases eb
  exact k4 b _ q nf
 refine⟨I.os,I.bare,⟨fun b o q n hf _=>?_,fun b o q n hf _=>?_,fun b o q n _=>I.base.free b o q n (nox b),fun b o q _=>?_,I.base.tups,I.base.frzs,I.base.tbls⟩,hok_objs I.hok fun b o u hb q=>k1 b u (trk b o u hb q),n0,nH,B,_,⟨k1,hen,k2,k3⟩,fun b o hb=>?_,fun b u o q q2 hf=>?_⟩
 ·exact k1 b o (inB b o (I.base.keep b o q n hf (nox b)) (oldE b o q) (oldL b o q) hf)
 ·obtain⟨sl,e1⟩:=I.base.slot b o q n hf (nox b)
  obtain⟨sl2,e2⟩:=frm b hf _ e1
  exact⟨sl2,e2⟩
 ·obtain⟨o1,e1⟩:=I.base.there b o q (nox b)
  by_cases hf:b∈frs X.outer
  ·obtain⟨sl2,e2⟩:=frm b hf _ e1
   exact⟨_,e2⟩
  ·exact⟨_,k1 b o1 (inB b o1 e1 (oldE b o q) (oldL b o q) hf)⟩
 ·obtain⟨u,hu⟩:=objOk_some (I.hok b o hb)
  exact⟨u,trk b o u hb hu⟩
 ·obtain⟨o1,e1⟩:=I.base.there b u q (nox b)
  have w:=inB b o1 e1 (oldE b u q) (oldL b u q) hf
  have w2:=k1 b o1 w
  have q2':h2.get? b=some o:=q2
  rw[w2]at q2'
  cases q2'
  exact w
theorem leave_onD{M:Model}{C:Value}{Q:Unit->Shared->Prop}{E:Value->Shared->Prop}(D:DefCx X)(I:Inv X pins σ H s)(F:Fly X.prog X.w X.stack H s H' e C s')(da:DAt s'.heap e dx)
  (hQ:∀h2,Fly X.prog X.w X.outer X.H₀ X.s₀ H' e C {s' with heap:=h2}->DAt h2 e dx->Q () {s' with heap:=h2}):wpAny M X.A (leaving X.env (.ref e)) Q E s':=by
 obtain⟨B,a0,fl,tB,oB⟩:=F.fly
 have hfr:X.A.frames=some (X.env::X.outer):=by rw[I.ok.frames,D.stk]
 have fl':Heap.FlyingW B (X.env::X.outer) e C a0 s'.heap:=by rw[← D.stk];exact fl
 refine nextD hfr D.frame fl' da fun h2 fl2 up hD=>hQ h2 ?_ hD
 have fs:=frs_cons D
 have I':Inv X pins σ H' s':=I.call' (ch:=[]) F.os F.un F.hok F.bare fun b z=>absurd z (by simp)
 have nox:∀b:Addr,b∉X.ex:=fun b=>by rw[D.ex];simp
 have oldL:∀b o,X.s₀.heap.get? b=some o->b≠X.env.locals:=fun b o q z=>by
  have l1:=Heap.lt_size q
  have l2:=I.ok.above
  rw[z]at l1
  exact absurd (Nat.lt_of_lt_of_le l1 l2) (Nat.lt_irrefl _)
 have same:∀b u v,B.get? b=some u->s'.heap.get? b=some v->u=v:=fun b u v h1 h2=>by
  have:=fl.1 b u h1
  rw[h2]at this
  exact(Option.some.inj this).symm
 have inB:∀b u,X.s₀.heap.get? b=some u->b∉frs X.outer->∃o2,s'.heap.get? b=some o2/\B.get? b=some o2:=fun b u q hf=>by
  obtain⟨o1,e1⟩:=I.base.there b u q (nox b)
  obtain⟨o2,e2⟩:=F.un.there b o1 e1 (by simp)
  exact⟨o2,e2,oB b o1 o2 e1 e2 (by rw[fs];intro z;rcases List.mem_cons.mp z with z|z;exact oldL b u q z;exact hf z)⟩
 have nofld:∀b∈frs X.outer,∃ob,s'.heap.get? b=some ob/\∀vs,ob.data ≠ .fields vs:=fun b hb=>by
  have hb':b∈X.stack.filterMap (·.frame):=by
   have:=fs
   unfold frs at this
   rw[this]
   exact List.mem_cons_of_mem _ hb
  obtain⟨_,ob,eb,nf⟩:=(I'.stack).mem hb'
  exact⟨ob,eb,nf⟩
 refine⟨I'.os,I'.bare,⟨fun b o q n hf _=>?_,fun b o q n hf _=>?_,fun b o q n _=>I'.base.free b o q n (nox b),fun b o q _=>?_,I'.base.tups,I'.base.frzs,I'.base.tbls⟩,hok_objs F.hok fun b o u hb q=>?_,?_,F.non,B,a0,fl2,tB,fun b u o q q2 hf=>?_⟩
 ·obtain⟨o2,e2,eB⟩:=inB b o q hf
  have:=I'.base.keep b o q n hf (nox b)
  rw[e2]at this
  cases this
  exact fl2.1 b _ eB
 ·obtain⟨sl,e1⟩:=I'.base.slot b o q n hf (nox b)
  obtain⟨ob,eb,nf⟩:=nofld b hf
  rw[e1]at eb
  cases eb
  obtain⟨sl2,e2⟩:=up b _ e1 nf
  exact⟨sl2,e2⟩
 ·obtain⟨o1,e1⟩:=I'.base.there b o q (nox b)
  by_cases hf:b∈frs X.outer
  ·obtain⟨ob,eb,nf⟩:=nofld b hf
   rw[e1]at eb
   cases eb
   obtain⟨sl2,e2⟩:=up b _ e1 nf
   exact⟨_,e2⟩
  ·obtain⟨o2,_,eB⟩:=inB b o q hf
   exact⟨o2,fl2.1 b o2 eB⟩
 ·obtain⟨v,hv⟩:=tB b o hb
  have:=same b v u hv q
  subst this
  exact fl2.1 b v hv
 ·cases q:X.s₀.heap.get? e with
  | none=>rfl
  | some o =>
   obtain⟨o1,e1⟩:=I.base.there e o q (nox e)
   rw[F.new]at e1
   cases e1
 ·obtain⟨o2,e2,eB⟩:=inB b u q hf
  have z2:=fl2.1 b o2 eB
  have q2':h2.get? b=some o:=q2
  rw[z2]at q2'
  cases q2'
  exact eB
end
end TL
end
section
namespace TL
open PySem PySem.Spec PyProof.Rows L2
abbrev SpX:=(T->Prop)->SpT
abbrev RF:T->Prop:=fun _=>False
abbrev clsAt(K:PySem.W.Frag)(c:Str)(C:Addr):Prop:=PySem.W.nsIn K mainGlobals c=some (some (.ref C))
def wishF(K:PySem.W.Frag)(R:T->Prop)(C:Addr)(dx:Option Addr)(H:Hp):Prop:=∃c,clsAt K c C ∧
 match dx with
 | none=>R (.exc c)
 | some d=>∃f t od u y,H d=some (kn od)/\PySem.W.lookIn f od=some (some u)/\RelV y u/\Rep K H t y/\R (.exf c f t)
def wishOf(K:PySem.W.Frag)(R:T->Prop):XK:=fun v dx H=>∃C,v=.ref C/\wishF K R C dx H
def CXE(P:Program)(w:World):CXT:=fun outer H s E e s'=>∃a C dx H',e=.ref a/\Fly P w outer H s H' a (.ref C) s'/\DAt s'.heap a dx/\Same H H'/\E (.ref C) dx H'
def spX(K:PySem.W.Frag)(n:Nat)(S:SpX):Sp:=fun vs H Q E=>∃(ts:List T) (Q0 R0:T->Prop),vs.length=n/\Reps K H ts vs/\S R0 ts Q0/\(∀t v H',Same H H'->Rep K H' t v->Q0 t->Q v H')/\∀v dx H',Same H H'->wishOf K R0 v dx H'->E v dx H'
structure FnX(P:Program)(w:World)(K:PySem.W.Frag)(mg:Str->Option Value)(base:Heap)(k:Nat)(f:Addr)(fd:FuncData)(ps:List Str)(S:SpX):Prop where
 ok:FnOk P w K mg base (CXE P w) k f fd ps (spX K ps.length S)
 len:∀R ts Q,S R ts Q->ts.length=ps.length
theorem FnX.calm{P:Program}{w:World}{K:PySem.W.Frag}{mg:Str->Option Value}{base:Heap}{k:Nat}{f:Addr}{fd:FuncData}{ps:List Str}{S:SpX}(F:FnX P w K mg base k f fd ps S):FnT P w K mg base k f fd ps (S RF):=by
 refine⟨⟨fun vs H Q E ⟨ts,Q0,e,_⟩=>e,fun A outer s H args us vs Q E hr e0 hb hv ⟨ts,Q0,e,r,hS,q⟩=>?_⟩,F.len RF⟩
 refine codeAny_mono (F.ok.run A outer s H args us vs Q (fun _ _ _=>False) hr e0 hb hv ⟨ts,Q0,RF,e,r,hS,q,fun v dx H' _ z=>?_⟩) fun res s' h=>?_
 ·obtain⟨_,_,_,_,z⟩:=z
  cases dx with
  | none=>exact z
  | some d =>
   obtain⟨_,_,_,_,_,_,_,_,_,z⟩:=z
   exact z
 ·cases res with
  | ok fl=>cases fl<;>exact h
  | error e =>
   obtain⟨_,_,_,_,_,_,_,_,z⟩:=h
   exact z.elim
def CalX(P:Program)(w:World)(K:PySem.W.Frag)(mg:Str->Option Value)(base:Heap)(k:Nat)(x:Str)(ps:List Str)(S:SpX):Prop :=
 ∃f fd,FnX P w K mg base k f fd ps S/\Binds K fd ps []/\PySem.W.keepIn K (.ref f)=true/\mg x=some (.ref f)
theorem CalX.mk{P:Program}{w:World}{K:PySem.W.Frag}{mg:Str->Option Value}{base:Heap}{k:Nat}{x qual:Str}{ps:List Str}{S:SpX}{st:Stmt}{f:Addr}{fd:FuncData}(F:Fun K x qual st f fd)(m:mg x=some (.ref f))
  (b:Binds K fd ps []) (h:FnX P w K mg base k f fd ps S):CalX P w K mg base k x ps S:=⟨f,fd,h,b,F.kp,m⟩
theorem CalX.calm{P:Program}{w:World}{K:PySem.W.Frag}{mg:Str->Option Value}{base:Heap}{k:Nat}{x:Str}{ps:List Str}{S:SpX}(C:CalX P w K mg base k x ps S):Cal P w K mg base k x ps (S RF) :=
 let ⟨f,fd,F,b,kp,m⟩:=C;⟨f,fd,F.calm,b,kp,m⟩
section
variable {X:Cx} {a b c e:Expr} {es:List Expr} {wa wb wc w:WE} {ws:WA} {pos:Pos} {st:Stmt}
theorem fresh_H{pins:List (Addr×Obj)}{σ:St}{H:Hp}{s:Shared}{a:Addr}(I:Inv X pins σ H s)(n:s.heap.get? a=none):H a=none:=by
 cases w:H a with
 | none=>rfl
 | some o =>
  obtain⟨b,hb⟩:=objOk_some (I.hok a o w)
  rw[n]at hb
  cases hb
theorem fresh_0{pins:List (Addr×Obj)}{σ:St}{H:Hp}{s:Shared}{a:Addr}(I:Inv X pins σ H s)(ex:X.ex=[])(n:s.heap.get? a=none):X.s₀.heap.get? a=none:=by
 cases w:X.s₀.heap.get? a with
 | none=>rfl
 | some o =>
  obtain⟨b,hb⟩:=I.base.there a o w (by rw[ex];simp)
  rw[n]at hb
  cases hb
structure Takes(X:Cx)(R:T->Prop):Prop where
 ex:X.ex=[]
 on:∀(pins:List (Addr×Obj))(σ:St)(H H':Hp)(s s':Shared)(a C:Addr)(dx:Option Addr),Inv X pins σ H s->Same X.H₀ H->Fly X.prog X.w X.stack H s H' a (.ref C) s'->DAt s'.heap a dx->Same H H'->wishF X.K R C dx H'->X.xe (.ref a) s'
 new:∀(pins:List (Addr×Obj))(σ:St)(H:Hp)(s:Shared)(a C t1:Addr)(dx:Option Addr),Inv X pins σ H s->Same X.H₀ H->s.heap.get? a=some (excObj C (.ref t1) dx)->H a=none->X.s₀.heap.get? a=none->wishF X.K R C dx H->X.xe (.ref a) s
theorem run_at{k:Nat}{f:Addr}{fd:FuncData}{ps:List Str}{S:SpX}{pins:List (Addr×Obj)}{σ:St}{H:Hp}{s:Shared}{Q:VK}{us:List Value}{vs:List V}{ts:List T}{Q0 R0:T->Prop}{E:Value->Shared->Prop}(F:FnX X.prog X.w X.K X.mg X.base k f fd ps S)(hr:Room k X.A)(hb:Binds X.K fd ps [])
  (hx:∀a C dx H' s',Fly X.prog X.w X.stack H s H' a (.ref C) s'->DAt s'.heap a dx->Same H H'->wishF X.K R0 C dx H'->E (.ref a) s')
  (I:Inv X pins σ H s) (r:Vals vs us) (rr:Reps X.K H ts vs) (hS:S R0 ts Q0) (q:∀t v H',Same H H'->Rep X.K H' t v->Q0 t->Q v H'):wpAny (model X.prog X.w) X.A (call (.ref f) us) (EP X pins σ Q) E s:=by
 have hl:us.length=ps.length:=by rw[← r.length,rr.length];exact F.len _ _ _ hS
 have hbb:=hb s us I.kIn (by simpa using hl)
 rw[List.append_nil]at hbb
 refine wpAny_call (codeAny_mono (F.ok.run X.A X.stack s H ⟨us,[]⟩ us vs Q (wishOf X.K R0) hr I.env0 hbb r ⟨ts,Q0,R0,by rw[r.length];exact hl,rr,hS,q,fun v dx H' _ z=>z⟩) fun res s' h=>?_)
 cases res with
 | error e =>
  obtain⟨a,C,dx,H',rfl,fl,da,S1,C',e1,h1⟩:=h
  cases e1
  exact hx a C dx H' s' fl da S1 h1
 | ok fl =>
  cases fl with
  | ret u=>exact I.after h
  | next=>exact False.elim h
  | brk=>exact False.elim h
  | cont=>exact False.elim h
theorem jcallX{k:Nat}{ps:List Str}{S:SpX}{R:T->Prop}{x:Str}{p:Pos}(C:CalX X.prog X.w X.K X.mg X.base k x ps S)(tk:Takes X R)(hr:Room k X.A)(hg:Gl X x)
  (ha:JA X (e::es) ws) (hdb:(x==("__debug__" : Str))=false:=by decide) (he:starEach (e::es) X.env=(false,eval e X.env)::starEach es X.env:=by exact star1 rfl)
  (hpl:(backTo pos (starEach es X.env)).any (·.1)=false:=by exact stars rfl):JE X (.Call (.Name x p) (e::es) [] pos) (wCall (S R) ws):=by
 obtain⟨f,fd,F,hb,hk,hm⟩:=C
 intro pins s σ H Q I ⟨τ,Q0,R0,hw,k⟩
 refine wpAny_Call_Name_kw (ld_glob I hg hm ?_ hdb)
 refine PySem.W.callWith_K (h₀:=X.base) I.ok.mod.kin hk (thn (ha pos pins s σ H (fun vs H1=>∃ts,Same H H1/\Reps X.K H1 ts vs/\S R ts Q0) I ⟨τ,_,R0,hw,fun ts vs H1 S1 r q=>⟨ts,S1,r,q⟩⟩) fun us s1 ⟨vs,H1,I1,r,ts,S1,rr,q⟩=>⟨I1.kIn,?_⟩) he hpl
 exact run_at F hr hb (fun a C dx H' s' fl da S2 h1=>tk.on pins σ H1 H' s1 s' a C dx I1 (R0.same.trans S1) fl da S2 h1) I1 r rr q fun t v H' S2 r2 q2=>k t v H' (S1.trans S2) r2 q2
def sRaise(R:T->Prop)(c:Str):WS:=fun _ _=>R (.exc c)
theorem takes_def{P:Program}{w:World}{K:PySem.W.Frag}{mg:Str->Option Value}{base:Heap}{N:List Str}{qual:Str}{scope:Scope}{f:Addr}{cdv:Value}{A:Around}{outer:List Env}{s:Shared}{H:Hp}{E:XK}{R:T->Prop}
  (hE:∀v dx H',Same H H'->wishOf K R v dx H'->E v dx H'):Takes (cxOf (CXE P w) P w K mg base N qual scope f cdv A outer s H E) R:=by
 have D:DefCx (cxOf (CXE P w) P w K mg base N qual scope f cdv A outer s H E):=⟨rfl,rfl,rfl⟩
 refine⟨rfl,fun pins σ H1 H' s1 s' a C dx I S0 fl da S1 h1=>?_,fun pins σ H1 s1 a C t1 dx I S0 he nH n0 h1=>?_⟩
 ·exact leave_onD D I fl da fun h2' F2 d2=>⟨a,C,dx,H',rfl,F2,d2,S0.trans S1,hE _ _ _ (S0.trans S1) ⟨C,rfl,h1⟩⟩
 ·exact leave_firstD D I he nH n0 fun h2' F2 d2=>⟨a,C,dx,H1,rfl,F2,d2,S0,hE _ _ _ S0 ⟨C,rfl,h1⟩⟩
theorem fnX{P:Program}{w:World}{K:PySem.W.Frag}{mg:Str->Option Value}{base:Heap}{x qual:Str}{st:Stmt}{f:Addr}{fd:FuncData}{N ps:List Str}{k:Nat}{S:SpX}{W:(T->Prop)->WS}(F:Fun K x qual st f fd)(SC:FnScope N ps (defScope st))
  (hlen:∀R ts Q,S R ts Q->ts.length=ps.length)
  (hbody:∀(R:T->Prop)(cdv:Value)(A:Around)(outer:List Env)(s:Shared)(H:Hp)(E:XK),Room k (A.deeper (envOfC qual (defScope st) s.heap.objs.size f cdv))->Takes (cxOf (CXE P w) P w K mg base N qual (defScope st) f cdv A outer s H E) R →
   JSs (cxOf (CXE P w) P w K mg base N qual (defScope st) f cdv A outer s H E) (defBody st) (W R))
  (hw:∀R ts Q,S R ts Q->W R {nx:=fun _=>Q .non,rt:=Q} (startT N.length ts)):FnX P w K mg base (k + 1) f fd ps S:=by
 refine⟨?_,hlen⟩
 obtain⟨oc,od,kV,doc,pm,an,cdv,ct,osl,rfl,lk,hcd⟩:=F.ex
 refine fn_of lk hcd SC (fun vs H Q E ⟨_,_,_,e,_⟩=>e) fun A outer s H vs Q E hr h=>?_
 obtain⟨ts,Q0,R0,e,r,hS,q,hE⟩:=h
 refine⟨_,hbody R0 cdv A outer s H E hr (takes_def hE),startT N.length ts,{nx:=fun _=>Q0 .non,rt:=Q0},repSt_start r,hw R0 ts Q0 hS,fun τ' σ' H' _ R n=>?_,fun t v H' S r' n=>q t v H' S r' n,fun τ' σ' H' _ R n=>n.elim,fun τ' σ' H' _ R n=>n.elim⟩
 exact q .non .non H' R.same (rep_non.mpr rfl) n
end
end TL
end
section
namespace TL
open PySem PySem.Spec PyProof.Rows L2
section
variable {X:Cx} {pins:List (Addr×Obj)} {σ:St} {H H':Hp} {s s':Shared} {a:Addr}
theorem land_inv{C a0:Value}{B h6:Heap}(I:Inv X pins σ H s)(F:Fly X.prog X.w X.stack H s H' a C s')(fl:Heap.FlyingW B X.stack a C a0 s'.heap)(tB:∀b o,H' b=some o->∃u,B.get? b=some u)
  (oB:∀b u o,s.heap.get? b=some u->s'.heap.get? b=some o->b∉frs X.stack->B.get? b=some o) (st:B.StaysIn h6) (up:s'.heap.UpToSlots h6):Inv X pins σ H' {s' with heap:=h6}:=by
 have I':Inv X pins σ H' s':=I.call' (ch:=[]) F.os F.un F.hok F.bare fun b z=>absurd z (by simp)
 have nofld:∀b∈frs X.stack,∃ob,s'.heap.get? b=some ob/\∀vs,ob.data ≠ .fields vs:=fun b hb=>by
  obtain⟨_,ob,eb,nf⟩:=(I'.stack).mem hb
  exact⟨ob,eb,nf⟩
 refine I.call' (s':={s' with heap:=h6}) (ch:=[]) F.os ⟨fun b o q n hf _=>?_,fun b o q n hf _=>?_,F.un.free,fun b o q _=>?_,F.un.tups,F.un.frzs,F.un.tbls⟩ (hok_objs F.hok fun b o u hb q=>?_) F.bare fun b z=>absurd z (by simp)
 ·have e2:=F.un.keep b o q n hf (by simp)
  exact st b o (oB b o o q e2 hf)
 ·obtain⟨sl,e1⟩:=F.un.slot b o q n hf (by simp)
  obtain⟨ob,eb,nf⟩:=nofld b hf
  rw[e1]at eb
  cases eb
  obtain⟨sl2,e2⟩:=up b _ e1 nf
  exact⟨sl2,e2⟩
 ·obtain⟨o1,e1⟩:=F.un.there b o q (by simp)
  by_cases hf:b∈frs X.stack
  ·obtain⟨ob,eb,nf⟩:=nofld b hf
   rw[e1]at eb
   cases eb
   obtain⟨sl2,e2⟩:=up b _ e1 nf
   exact⟨_,e2⟩
  ·exact⟨o1,st b o1 (oB b o o1 q e1 hf)⟩
 ·obtain⟨v,hv⟩:=tB b o hb
  have:=fl.1 b v hv
  rw[q]at this
  cases this
  exact st b _ hv
theorem Inv.track{o:Obj}(I:Inv X pins σ H s)(hn:H a=none)(ho:s.heap.get? a=some o)(h0:X.s₀.heap.get? a=none)(hL:a≠X.env.locals)(hc:∀x c,X.env.cells.lookup x=some c->c≠a)(hp:∀p∈X.pn++pins,p.1≠a):Inv X pins σ (upd H a (kn o)) s:=by
 have ne:∀{b:Addr}{u:HO},H b=some u->b≠a:=fun q z=>by rw[z,hn]at q;cases q
 refine⟨I.ok,I.os,I.bare,⟨I.base.keep,I.base.slot,fun b ob q n hx=>?_,I.base.there,fun b xs q=>?_,fun b ob u q=>?_,fun b ps q=>?_⟩,I.loc,I.cell,?_,fun x c q=>?_,fun p q=>?_,fun b u q=>?_,I.len⟩
 ·have nb:b≠a:=fun z=>by rw[z,h0]at q;cases q
  rw[upd_ne nb]
  exact I.base.free b ob q n hx
 ·have e:=I.base.tups b xs q
  rw[upd_ne (ne e)]
  exact e
 ·have e:=I.base.frzs b ob u q
  rw[upd_ne (ne e)]
  exact e
 ·obtain⟨more,e⟩:=I.base.tbls b ps q
  exact⟨more,by rw[upd_ne (ne e)];exact e⟩
 ·rw[upd_ne (Ne.symm hL)]
  exact I.free
 ·rw[upd_ne (hc x c q)]
  exact I.freeC x c q
 ·obtain⟨e1,e2,e3⟩:=I.pin p q
  exact⟨e1,by rw[upd_ne (hp p q)];exact e2,e3⟩
 ·by_cases hb:b=a
  ·subst hb
   rw[upd_same]at q
   cases q
   exact⟨ho,trivial,⟨_,ho⟩,fun _ _ _ _=>trivial⟩
  ·rw[upd_ne hb]at q
   exact(I.hok b u q).stay (fun _ _ _ z=>z) (fun c z=>by rw[upd_ne (ne z)];exact z) fun c ys z=>by rw[upd_ne (ne z)];exact z
theorem track_same{o:Obj}(hn:H a=none):Same H (upd H a (kn o)):=fun b u q=>by
 rw[upd_ne (fun z=>by rw[z,hn]at q;cases q)]
 exact q
theorem Inv.goes{i:Nat}{n:Str}{m:Str->Option Value}{v:Option Value}{h':Heap}{t':Nat}(I:Inv X pins σ H s)(hN:X.N.Nodup)(hi:X.N[i]?=some n)(hm:s.heap.Ns X.env.locals m/\∀(j:Nat)(x:Str)(w:V),X.N[j]?=some x->σ[j]?=some (some w)->Vis X.env.scope x->∃u,RelV w u/\Look X.env s.heap m x u)
  (hn:h'.Ns X.env.locals fun x=>if x=n then v else m x) (hs:Heap.SameBut X.env.locals s.heap h'):Inv X pins (σ.set i none) H {s with heap:=h',toks:=t' }:=by
 have nL:∀b o,X.s₀.heap.get? b=some o->b≠X.env.locals:=fun b o q=>Nat.ne_of_lt (Nat.lt_of_lt_of_le (Heap.lt_size q) I.ok.above)
 have cne:=I.cne
 refine⟨I.ok,I.os,I.bare,⟨fun b o q z hb hx=>(hs.2 b (nL b o q)).trans (I.base.keep b o q z hb hx),fun b o q z hb hx=>?_,I.base.free,fun b o q hx=>?_,I.base.tups,I.base.frzs,I.base.tbls⟩,⟨_,hn,fun j y w e1 e2 e3=>?_⟩,fun y c q=>?_,I.free,I.freeC,fun p hp=>?_,fun b u q=>?_,by simpa using I.len⟩
 ·obtain⟨sl,e1⟩:=I.base.slot b o q z hb hx
  exact⟨sl,(hs.2 b (nL b o q)).trans e1⟩
 ·obtain⟨o',e1⟩:=I.base.there b o q hx
  exact⟨o',(hs.2 b (nL b o q)).trans e1⟩
 ·by_cases hj:j=i
  ·subst hj
   have:(σ.set j none)[j]?=some (some w):=e2
   rw[List.getElem?_set]at this
   split at this
   ·split at this<;>cases this
   ·rename_i hh;exact absurd rfl hh
  ·rw[List.getElem?_set_ne (Ne.symm hj)]at e2
   obtain⟨u',r',q⟩:=hm.2 j y w e1 e2 e3
   refine⟨u',r',?_⟩
   rcases q with ⟨k,e⟩|⟨k,c,e,z⟩
   ·refine .inl ⟨k,?_⟩
    have:y≠n:=fun e=>hj (nodup_ix hN e1 (e ▸ hi))
    simp[this,e]
   ·exact .inr ⟨k,c,e,z.sameBut hs (cne y c e)⟩
 ·obtain⟨w',z⟩:=I.cell y c q
  exact⟨w',z.sameBut hs (cne y c q)⟩
 ·obtain⟨e,n',ne,nf,d⟩:=I.pin p hp
  exact⟨(hs.2 p.1 ne).trans e,n',ne,nf,d⟩
 ·refine(I.hok b u q).stay (fun c w' hc z=>(hs.2 c ?_).trans z) (fun _ z=>z) fun _ _ z=>z
  rintro rfl
  rcases hc with hc|hc
  ·rw[← hc]at q;rw[I.free]at q;cases q
  ·rw[I.free]at hc;cases hc
abbrev Cx.caught(X:Cx)(a:Addr)(E:Value->Shared->Prop):Cx:={X with A:=X.A.mark (some (.ref a)),calm:=false,xe:=E}
theorem Inv.caught{E:Value->Shared->Prop}(I:Inv X pins σ H s)(a:Addr):Inv (Cx.caught X a E) pins σ H s :=
 ⟨⟨I.ok.mod,I.ok.kind,I.ok.glob,I.ok.blt,I.ok.above,I.ok.inj,I.ok.has,I.ok.cab,fun z=>(by cases z),I.ok.frames,I.ok.stk,I.ok.exf,I.ok.bs,I.ok.bsz,I.ok.noex,I.ok.exfs,I.ok.funs,I.ok.frf⟩,I.os,I.bare,I.base,I.loc,I.cell,I.free,I.freeC,I.pin,I.hok,I.len⟩
theorem Inv.uncaught{E:Value->Shared->Prop}(ok:X.Ok)(I:Inv (Cx.caught X a E) pins σ H s):Inv X pins σ H s :=
 ⟨ok,I.os,I.bare,I.base,I.loc,I.cell,I.free,I.freeC,I.pin,I.hok,I.len⟩
theorem catch_at{C CY:Addr}{dx:Option Addr}{y n kept:Str}{i j:Nat}{np p1 p2 p3 hpos:Pos}{Q:Flow->Shared->Prop}{E:Value->Shared->Prop}(D:DefCx X)(I:Inv X pins σ H s)(F:Fly X.prog X.w X.stack H s H' a (.ref C) s')(da:DAt s'.heap a dx)
  (hN:X.N.Nodup) (hi:X.N[i]?=some n) (hj:X.N[j]?=some kept) (hij:j≠i) (hln:X.env.scope.names.lookup n=some .local) (hlk:X.env.scope.names.lookup kept=some .local) (hg:Gl X y) (hm:X.mg y=some (.ref CY))
  (ex:PySem.W.exmOne X.K (.ref C) (.ref CY)=some true) (hdy:(y==("__debug__" : Str))=false) (hdn:(n==("__debug__" : Str))=false) (hcn:(n==("__classdict__" : Str))=false)
  (hQ:∀s7 H7 o,Inv X pins ((σ.set j (some (.ref a))).set i none) H7 s7->Same H' H7->H7 a=some (kn o)->o.cls=.ref C->(∃ws,o.data=.fields ws)->o.dict=dx->Q .next s7) :
  wpAny (model X.prog X.w) X.A (noteFrame (.ref a) X.env) (fun _ s2=>wpAny (model X.prog X.w) X.A (setFlight (.ref a) none) (fun _ s3 =>
   wpAny (model X.prog X.w) X.A (handleBy (.ref a) X.env [.ExceptHandler (some (.Name y np)) (some n) [.Assign [.Name kept p1] (.Name n p2) p3] hpos]) Q E s3) E s2) E s':=by
 obtain⟨B,a0,fl,tB,oB⟩:=F.fly
 have hfr:X.A.frames=some (X.env::X.outer):=by rw[I.ok.frames,D.stk]
 have fl0:Heap.FlyingW B (X.env::X.outer) a (.ref C) a0 s'.heap:=by rw[← D.stk];exact fl
 refine noteD hfr D.frame fl0 da fun h4 held sm4 da4=>?_
 refine landD (s:={s' with heap:=h4}) held.1 held.2.1 held.2.2.1 held.2.2.2 da4 fun h5 fl5 sm5 da5=>?_
 have I5:Inv X pins σ H' {s' with heap:=h5}:=land_inv I F fl tB oB fl5.1 (sm4.trans sm5)
 obtain⟨ob,hob,hobc⟩:=fl5.there
 refine wpAny_handleBy_cons (codeAny_handlers_test (ld_glob (Inv.caught (E:=E) I5 a) hg hm ?_ hdy)) (by intro q;cases q)
 have LT:PySem.W.Looks (model X.prog X.w) h5 (typeOf (.ref a)) (.ref C):=hobc ▸ (PySem.W.Looks.ld hob).andThen .now
 refine(PySem.W.exm_one (M:=model X.prog X.w) I5.kIn LT ex).here ?_
 refine codeAny_handlers_suite_as ?_
 refine landD (s:={s' with heap:=h5}) fl5.1 fl5.2.1 fl5.2.2.1 fl5.2.2.2.at da5 fun h6 fl6 sm6 da6=>?_
 have I6:Inv X pins σ H' {s' with heap:=h6}:=land_inv I F fl tB oB fl6.1 ((sm4.trans sm5).trans sm6)
 obtain⟨oe,ws,Tb,oT,tsT,hoe,hoc,hod,_⟩:=fl6.2.2.2
 have hdx:oe.dict=dx:=by
  obtain⟨o9,q9,r9⟩:=da6
  rw[hoe]at q9
  cases q9
  exact r9
 have new0:X.s₀.heap.get? a=none:=by
  cases q:X.s₀.heap.get? a with
  | none=>rfl
  | some o =>
   obtain⟨o1,e1⟩:=I.base.there a o q (by rw[D.ex];simp)
   rw[F.new]at e1
   cases e1
 have lt0:∀{b:Addr}{o:Obj},s.heap.get? b=some o->b≠a:=fun q z=>by rw[z,F.new]at q;cases q
 obtain⟨mL,hnL,_⟩:=I.loc
 obtain⟨oL,esL,epL,hoL,_⟩:=id hnL
 have It:Inv X pins σ (upd H' a (kn oe)) {s' with heap:=h6}:=Inv.track I6 F.non hoe new0 (Ne.symm (lt0 hoL)) (fun x c q=>by obtain⟨v,o,e,_⟩:=I.cell x c q;exact lt0 e) fun p hp=>lt0 (I.pin p hp).1
 have Ic:=Inv.caught (E:=fun _ _=>False) It a
 refine store_ok (X:=Cx.caught X a fun _ _=>False) Ic hN hi (.inl hln) (v:=.ref a) rfl (fun s8 I8=>?_) (.inr hln)
 have hn8:((σ.set i (some (V.ref a)))[i]?)=some (some (.ref a)):=List.getElem?_set_self (by rw[I.len];exact(List.getElem?_eq_some_iff.mp hi).1)
 have ps:PSs (Cx.caught X a fun _ _=>False) [.Assign [.Name kept p1] (.Name n p2) p3] (tAsg (tVar i) (gName j)):=pss_one (ps_set (X:=Cx.caught X a fun _ _=>False) hN hj (.inl hlk) (pe_var hi (.inl hln) hdn hcn) rfl (.inr hlk))
 have z:=ps pins s8 _ _ {nx:=fun σ' H9=>σ'=(σ.set i (some (V.ref a))).set j (some (.ref a))/\H9=upd H' a (kn oe),rt:=fun _ _=>False} I8 ⟨.ref a,hn8,rfl,rfl⟩
 refine wpAny_mono z (fun f s9 h9=>?_) fun x s9 h9=>?_
 ·cases f with
  | next =>
   obtain⟨σ9,H9,I9,rfl,rfl⟩:=h9
   have I9':Inv X pins ((σ.set i (some (V.ref a))).set j (some (.ref a))) (upd H' a (kn oe)) s9:=Inv.uncaught I.ok I9
   obtain⟨m9,hn9,hl9⟩:=I9'.loc
   have hcls:(X.env.scope.kind == .class||(X.env.scope.kind == .module&&X.env.locals != X.env.globals))=false:=by rw[I.ok.kind];rfl
   refine wpAny_nameGoes_keeps hln hn9 hcls fun h10 v hns hsb=>?_
   have I10:=Inv.goes (t':=s9.toks + 1) I9' hN hi ⟨hn9,hl9⟩ hns hsb
   have es:(((σ.set i (some (V.ref a))).set j (some (.ref a))).set i none)=(σ.set j (some (.ref a))).set i none:=by
    rw[List.set_comm _ _ (Ne.symm hij),List.set_set]
   rw[es]at I10
   exact hQ _ _ oe I10 (track_same F.non) upd_same hoc.1 ⟨ws,hod⟩ hdx
  | brk=>obtain⟨_,_,_,z⟩:=h9;exact z.elim
  | cont=>obtain⟨_,_,_,z⟩:=h9;exact z.elim
  | ret u=>obtain⟨_,_,_,_,_,z⟩:=h9;exact z.elim
 ·exact False.elim h9
end
section
variable {X:Cx} {e:Expr} {es:List Expr} {ws:WA} {pos:Pos}
theorem RepSt.gone{K:PySem.W.Frag}{H0 H:Hp}{σ:St}{τ:List Slot}{i:Nat}(R:RepSt K H0 H σ τ):RepSt K H0 H (σ.set i none) (sput τ i .no):=by
 have nown:∀c ts,sget (sput τ i .no) c=.own ts->i≠c/\sget τ c=.own ts:=fun c ts h=>by
  by_cases hc:i=c
  ·subst hc
   by_cases hi:i < τ.length
   ·rw[sget_same hi]at h;cases h
   ·rw[sget_big (by rw[length_sput];omega)]at h;cases h
  ·rw[sget_ne hc]at h
   exact⟨hc,h⟩
 refine⟨R.same,by rw[length_sput,List.length_set];exact R.len,fun j=>?_,fun a b ts us p hab ha hb ea eb=>?_⟩
 ·by_cases hij:i=j
  ·subst hij
   by_cases hi:i < τ.length
   ·rw[sget_same hi];trivial
   ·rw[sget_big (by rw[length_sput];omega)];trivial
  ·rw[sget_ne hij,List.getElem?_set_ne hij]
   exact R.slot j
 ·obtain⟨na,ha⟩:=nown a ts ha
  obtain⟨nb,hb⟩:=nown b us hb
  rw[List.getElem?_set_ne na]at ea
  rw[List.getElem?_set_ne nb]at eb
  exact R.apart a b ts us p hab ha hb ea eb
def Catches(K:PySem.W.Frag)(mg:Str->Option Value)(y:Str)(cs:List Str):Prop:=∃CY,mg y=some (.ref CY)/\∀c∈cs,∀C,clsAt K c C->PySem.W.exmOne K (.ref C) (.ref CY)=some true
def sTry(tb:(T->Prop)->WS)(i j:Nat)(cs:List Str):WS:=fun D τ=>tb (fun x=>match x with | .exc c=>c∈cs/\D.nx (sput (sput τ j (.val (.exc c))) i .no) | .exf c f t=>c∈cs/\D.nx (sput (sput τ j (.val (.exf c f t))) i .no)|_=>False) D τ
end
theorem look_ns1{h:Heap}{d:Addr}{m:Str->Option Value}{f:Str}{u:Value}(n:h.Ns1 d m)(e:m f=some u):∃od,h.get? d=some od/\PySem.W.lookIn f od=some (some u):=by
 obtain⟨o,es,ep,ho,hd,_,_,hf⟩:=n
 refine⟨o,ho,?_⟩
 have z:=(hf f).trans e
 unfold nsFind findBy at z
 rw[← Array.find?_toList]at z
 unfold PySem.W.lookIn
 rw[hd]
 dsimp only
 cases q:es.toList.find? (fun e=>e.key.isStr f) with
 | none=>rw[q]at z;cases z
 | some en=>rw[q]at z;exact congrArg some z
theorem ns_of{K:PySem.W.Frag}{h:Heap}{N:Addr}{mg:Str->Option Value}{n:Str}{v:Value}(X:K.In h)(G:h.Ns N mg)(e:PySem.W.nsIn K N n=some (some v)):mg n=some v:=by
 obtain⟨o,es,ep,ho,hd,_,hf⟩:=G
 unfold PySem.W.nsIn at e
 split at e
 ·rename_i c d es' n' sl q
  have z:=X _ _ q
  rw[ho]at z
  cases z
  cases hd
  split at e
  ·rename_i en he
   cases e
   rw[← hf]
   unfold nsFind findBy
   rw[← Array.find?_toList,he]
   rfl
  ·split at e<;>cases e
 ·cases e
def ownIn(K:PySem.W.Frag)(C fI:Addr):Bool:=match K.lookup C with
 | some ⟨.type "type", _,.cls cd,sl⟩=>(match cd.mro,sl.toList with
  | .ref C'::bm,[_,_,_,_,some (.builtin n),_]=>C'==C&&n == "ValueError.__new__" && !cd.hasDel&&PySem.W.tailIn K mroVE bm&&PySem.W.nsOkIn K cd.ns&&PySem.W.nsIn K cd.ns "__init__" == some (some (.ref fI))
  | _,_=>false)
 | _=>false
theorem own_at{K:PySem.W.Frag}{h:Heap}{C fI:Addr}(kin:K.In h)(q:ownIn K C fI=true) :
  ∃bm N nm qn bb hd sn sub ab col dd k0 k1 k2 k3 k5 mN,h.get? C=some (excClassObj nm qn C N bb bm hd sn sub ab col dd k0 k1 k2 k3 k5 "ValueError.__new__")/\h.Ns N mN/\mN "__init__" = some (.ref fI)/\OwnTail h mroVE bm:=by
 unfold ownIn at q
 split at q
 case h_2=>cases q
 rename_i dd cd sl look
 split at q
 case h_2=>cases q
 rename_i C1 bm k0 k1 k2 k3 n k5 em es
 rw[Bool.and_eq_true,Bool.and_eq_true,Bool.and_eq_true,Bool.and_eq_true,Bool.and_eq_true]at q
 obtain⟨⟨⟨⟨⟨e1,e2⟩,e3⟩,e4⟩,e5⟩,e6⟩:=q
 have e1:=beq_iff_eq.mp e1
 have e2:=beq_iff_eq.mp e2
 have e6:=beq_iff_eq.mp e6
 have obj:=kin _ _ look
 obtain⟨f1,f2,f3,f4,f5,f6,f7,f8,f9,f10,f11⟩:=cd
 have e3:f11=false:=by simpa using e3
 have em:f3=.ref C1::bm:=em
 have hs:sl=#[k0,k1,k2,k3,some (.builtin n),k5]:=by
  cases sl with
  | mk l=>exact congrArg Array.mk es
 rw[hs,em,e3,e1,e2]at obj
 have G:h.Ns f4 (h.nsMap f4):=.of_isNs (PySem.W.isNs_of_in kin e5)
 exact⟨bm,f4,f1,f5,f2,f6,f7,f8,f9,f10,dd,k0,k1,k2,k3,k5,h.nsMap f4,obj,G,ns_of kin G e6,PySem.W.tail_of_in kin e4⟩
structure IniAt(K:PySem.W.Frag)(mg:Str->Option Value)(c f:Str)(st:Stmt)(qual slf x y m:Str)(C CY fI:Addr)(mc:Value)(cd:ClassData)(rs:List Addr)(pl:Env->Sem Bool)(p1 p2 p3 p4 p5 p6 p7 p8 p9 r1 r2 r3 r4:Pos)(k:Nat)(fd:FuncData):Prop where
 cl:clsAt K c C
 mcl:mg c=some (.ref C)
 own:ownIn K C fI=true
 fn:Fun K "__init__" qual st fI fd
 fc:∃o,K.lookup fI=some o/\o.cls=.type "function"
 bd:Binds K fd [slf,x] []
 body:defBody st=[.Expr (.Call (.Attribute (.Name y p1) "__init__" p2) [.Name slf p3,.JoinedStr [.Constant (.str m) k p4,.FormattedValue (.Name x p5) 114 none p6] p7] [] p8) p9,.Assign [.Attribute (.Name slf r1) f r2] (.Name x r3) r4]
 sc:FnScope [slf,x] [slf,x] (defScope st)
 v0:Vis (defScope st) slf
 v1:Vis (defScope st) x
 gl:(defScope st).names.lookup y=some .globalImplicit
 my:mg y=some (.ref CY)
 sp:PySem.W.specialIn K (.ref CY) "__getattribute__" = some (some (.builtin "type.__getattribute__"))
 rd:PySem.W.readsIn K CY mc=true
 fk:PySem.W.findCls K (.ref CY) mc "__init__" = some (.val (.builtin "ValueError.__init__"))
 sa:PySem.W.findIn K (.ref C) "__setattr__" = some (some (.builtin "object.__setattr__"))
 na:PySem.W.findIn K (.ref C) f=some none
 ci:PySem.W.clsIn K C=some cd
 mro:cd.mro=rs.map Value.ref++mroVE
 hd:cd.hasDict=true
 ml:m.length<=1000
 dy:(y==("__debug__" : Str))=false
 d0:(slf==("__debug__" : Str))=false
 c0:(slf==("__classdict__" : Str))=false
 d1:(x==("__debug__" : Str))=false
 c1:(x==("__classdict__" : Str))=false
 ht:∀env:Env,eval (.Call (.Attribute (.Name y p1) "__init__" p2) [.Name slf p3,.JoinedStr [.Constant (.str m) k p4,.FormattedValue (.Name x p5) 114 none p6] p7] [] p8) env=(do
   let ov ← eval (.Name y p1) env
   standAt p2.atName
   let (f,first) ← holding [ov] (getMethod ov "__init__" (pl env))
   callWith p8 f first (backTo p8 (starEach [.Name slf p3,.JoinedStr [.Constant (.str m) k p4,.FormattedValue (.Name x p5) 114 none p6] p7] env)) (backToKw p8 (keywordEach [] env)))
 sw:∀env:Env,swapsWith (.Name x r3) (some (.Attribute (.Name slf r1) f r2)) r4.line env=pure false
def FldCls(K:PySem.W.Frag)(mg:Str->Option Value)(c f:Str):Prop:=∃(st:Stmt) (qual self x y m:Str) (C CY fI:Addr) (mc:Value) (cd:ClassData) (rs:List Addr) (pl:Env->Sem Bool) (p1 p2 p3 p4 p5 p6 p7 p8 p9 r1 r2 r3 r4:Pos) (k:Nat) (fd:FuncData),
 IniAt K mg c f st qual self x y m C CY fI mc cd rs pl p1 p2 p3 p4 p5 p6 p7 p8 p9 r1 r2 r3 r4 k fd
theorem ini_fld{K:PySem.W.Frag}{mg:Str->Option Value}{c f:Str}{st:Stmt}{qual slf x y m:Str}{C CY fI:Addr}{mc:Value}{cd:ClassData}{rs:List Addr}{pl:Env->Sem Bool}{p1 p2 p3 p4 p5 p6 p7 p8 p9 r1 r2 r3 r4:Pos}{k:Nat}{fd:FuncData}
  (a1:clsAt K c C) (a2:mg c=some (.ref C)) (a3:ownIn K C fI=true) (a4:Fun K "__init__" qual st fI fd) (a5:∃o,K.lookup fI=some o/\o.cls=.type "function") (a6:Binds K fd [slf,x] [])
  (a7:defBody st=[.Expr (.Call (.Attribute (.Name y p1) "__init__" p2) [.Name slf p3,.JoinedStr [.Constant (.str m) k p4,.FormattedValue (.Name x p5) 114 none p6] p7] [] p8) p9,.Assign [.Attribute (.Name slf r1) f r2] (.Name x r3) r4])
  (a8:FnScope [slf,x] [slf,x] (defScope st)) (a9:Vis (defScope st) slf) (b1:Vis (defScope st) x) (b2:(defScope st).names.lookup y=some .globalImplicit) (b3:mg y=some (.ref CY))
  (b4:PySem.W.specialIn K (.ref CY) "__getattribute__" = some (some (.builtin "type.__getattribute__"))) (b5:PySem.W.readsIn K CY mc=true) (b6:PySem.W.findCls K (.ref CY) mc "__init__" = some (.val (.builtin "ValueError.__init__")))
  (b7:PySem.W.findIn K (.ref C) "__setattr__" = some (some (.builtin "object.__setattr__"))) (b8:PySem.W.findIn K (.ref C) f=some none) (b9:PySem.W.clsIn K C=some cd) (c1:cd.mro=rs.map Value.ref++mroVE) (c2:cd.hasDict=true) (c3:m.length<=1000)
  (c4:(y==("__debug__" : Str))=false) (c5:(slf==("__debug__" : Str))=false) (c6:(slf==("__classdict__" : Str))=false) (c7:(x==("__debug__" : Str))=false) (c8:(x==("__classdict__" : Str))=false)
  (c9:∀env:Env,eval (.Call (.Attribute (.Name y p1) "__init__" p2) [.Name slf p3,.JoinedStr [.Constant (.str m) k p4,.FormattedValue (.Name x p5) 114 none p6] p7] [] p8) env=(do
   let ov ← eval (.Name y p1) env
   standAt p2.atName
   let (f,first) ← holding [ov] (getMethod ov "__init__" (pl env))
   callWith p8 f first (backTo p8 (starEach [.Name slf p3,.JoinedStr [.Constant (.str m) k p4,.FormattedValue (.Name x p5) 114 none p6] p7] env)) (backToKw p8 (keywordEach [] env))))
  (d1:∀env:Env,swapsWith (.Name x r3) (some (.Attribute (.Name slf r1) f r2)) r4.line env=pure false):FldCls K mg c f :=
 ⟨st,qual,slf,x,y,m,C,CY,fI,mc,cd,rs,pl,p1,p2,p3,p4,p5,p6,p7,p8,p9,r1,r2,r3,r4,k,fd,a1,a2,a3,a4,a5,a6,a7,a8,a9,b1,b2,b3,b4,b5,b6,b7,b8,b9,c1,c2,c3,c4,c5,c6,c7,c8,c9,d1⟩
def inSt:Stmt->Stmt
 | .ClassDef _ _ _ (s::_) _ _ _ _ _ _ _=>s
 | s=>s
def FldT:T->Prop
 | .int i=>i.natAbs.log2 < 1920
 | .non=>True
 | .str x=>(reprText x).length<=100000
 | _=>False
theorem fld_says{K:PySem.W.Frag}{H:Hp}{t:T}{v:V}{m:Str}(h:FldT t)(r:Rep K H t v)(hm:m.length<=1000):Says v/\(Str.empty++m).length<=sizeLine/\(Str.empty++m++txtV v).length<=sizeLine/\∀H',Rep K H' t v:=by
 have em:∀a b:Str,(a++b).length=a.length + b.length:=fun a b=>Str.length_append a b
 have e0:Str.empty.length=0:=rfl
 have l1:(Str.empty++m).length<=sizeLine:=by rw[em,e0,sizeLine_eq];omega
 cases t with
 | int i =>
  obtain rfl:=rep_int.mp r
  refine⟨h,l1,?_,fun H'=>rep_int.mpr rfl⟩
  have e:=int_text_length_le (k:=1920) (by decide) h
  rw[em,em,e0,sizeLine_eq]
  show 0 + m.length + (Str.ofString (toString i)).length<=_
  rw[PySem.ofString_length]
  omega
 | non =>
  obtain rfl:=rep_non.mp r
  refine⟨trivial,l1,?_,fun H'=>rep_non.mpr rfl⟩
  rw[em,em,e0,sizeLine_eq]
  show 0 + m.length + ("None" : Str).length<=_
  have:("None" : Str).length=4:=by decide
  omega
 | str x =>
  obtain rfl:=rep_str.mp r
  have h:(reprText x).length<=100000:=h
  refine⟨?_,l1,?_,fun H'=>rep_str.mpr rfl⟩
  ·show (reprText x).length<=sizeLine
   rw[sizeLine_eq]
   omega
  ·rw[em,em,e0,sizeLine_eq]
   show 0 + m.length + (reprText x).length<=_
   omega
 | _=>exact h.elim
def sRaiseF(R:T->Prop)(c f:Str)(wa:WE):WS:=fun _ τ=>wa τ fun t=>FldT t/\R (.exf c f t)
section
variable {X:Cx} {e:Expr} {wa:WE} {pos:Pos}
theorem jraiseF{R:T->Prop}{c f:Str}{np cpos:Pos}{k:Nat}(G:FldCls X.K X.mg c f)(tk:Takes X R)(hca:X.calm=true)(hr:Room (k + 2) X.A)(hg:Gl X c)(ha:JE X e wa) (dc:(c==("__debug__" : Str))=false:=by decide)
  (he:starEach [e] X.env=(false,eval e X.env)::starEach [] X.env:=by exact star1 rfl) (hpl:(backTo cpos (starEach [e] X.env)).any (·.1)=false:=by exact stars rfl) :
  JS X (.Raise (some (.Call (.Name c np) [e] [] cpos)) none pos) (sRaiseF R c f wa):=by
 obtain⟨st,qual,self,x,y,m,C,CY,fI,mc,cd,rs,pl,p1,p2,p3,p4,p5,p6,p7,p8,p9,r1,r2,r3,r4,kk,fd,G⟩:=G
 obtain⟨oc,od,kV,doc,pm,an,cdv,ct,osl,rfl,lk,hcd⟩:=G.fn.ex
 obtain⟨oI,lkI,hcl⟩:=G.fc
 intro pins s σ H D I ⟨τ,D0,R0,hw,_⟩
 obtain⟨bm,N,nm,qn,bb,hd,sn,sub,ab,col,dd,k0,k1,k2,k3,k5,mN,hC,hN,hi,TT⟩:=own_at I.ok.mod.kin G.own
 have bd:=G.bd
 have ex0:=tk.ex
 rw[G.body]at lk bd
 refine raise_at (P:=fun v H1=>∃t,Same H H1/\Rep X.K H1 t v/\FldT t/\R (.exf c f t)) PySem.F.excBase_ValueError (by decide) (TT.hasType rfl) hC hN hi (I.ok.mod.kin _ _ lkI) hcl TT I hca hg G.mcl ha he hpl ⟨τ,_,R0,hw,fun t v H1 S1 r q=>⟨t,S1,r,q⟩⟩ (fun s2 v u h' a H2 I2 hP ru mk le=>?_) dc
 obtain⟨t,S2,rt,ft,hR⟩:=hP
 obtain⟨sv,l1,l2,all⟩:=fld_says ft rt G.ml
 have I2':Inv X pins σ H2 {s2 with heap:=h',toks:=s2.toks}:=I2.kept mk.keeps
 have A0:=I2'.env0
 have hA:Env0 X.prog X.w X.K X.mg X.base (X.A.under (.builtin "type.__call__" ⟨[.ref C,u],[]⟩)) X.stack {s2 with heap:=h' } H2:=⟨A0.frames,A0.mod,A0.bs,A0.bsz,A0.funs,A0.frf,A0.hok,A0.bare⟩
 refine init_run (j:=k) (pl:=pl) I2 mk le ru sv lk hcd G.sc G.v0 G.v1 G.gl (hr.make C [u] []) hA PySem.F.excBase_ValueError hC TT G.my l1 l2 G.sp G.rd G.fk (by decide) G.sa G.na G.ci G.mro G.hd (bd _ _ I2'.kIn rfl) (fun s' t1 d u' ru' ld q1 q2 J=>?_) G.dy G.d0 G.c0 G.d1 G.c1 G.ht G.sw
 refine⟨rfl,⟨t1,d,q1⟩,J,?_⟩
 obtain⟨od',hod,hlk⟩:=look_ns1 (f:=f) (u:=u') q2 (by rw[if_pos rfl])
 have nd:s2.heap.get? d=none:=Heap.get?_none_of_le ld
 have ltd:∀{b:Addr}{o:Obj},s2.heap.get? b=some o->b≠d:=fun q z=>by rw[z,nd]at q;cases q
 obtain⟨mL,hnL,_⟩:=I2.loc
 obtain⟨oL,esL,epL,hoL,_⟩:=id hnL
 have hdn:=fresh_H I2 nd
 have Jt:Inv X pins σ (upd H2 d (kn od')) s':=Inv.track J hdn hod (fresh_0 I2 ex0 nd) (Ne.symm (ltd hoL)) (fun x c q=>by obtain⟨v,o,e,_⟩:=I2.cell x c q;exact ltd e) fun p hp=>ltd (I2.pin p hp).1
 have ts:Same H2 (upd H2 d (kn od')):=track_same hdn
 have nda:a≠d:=fun z=>by
  rw[z,hod]at q1
  cases q1
  cases hlk
 refine tk.new pins σ _ s' a C t1 (some d) Jt ((R0.same.trans S2).trans ts) q1 ?_ (fresh_0 I2 ex0 mk.new) ⟨c,G.cl,f,t,od',u',v,upd_same,hlk,ru',all _,hR⟩
 rw[upd_ne nda]
 exact fresh_H I2 mk.new
end
end TL
end
section
namespace TL
open PySem PySem.Spec PyProof.Rows L2
section
variable {prog:Program} {w:World} {A:Around} {E:Value->Shared->Prop} {h:Heap} {g:Array GenState} {d:Drawn} {t:Nat} {os:OsState} {a C:Addr} {o:Obj} {K:PySem.W.Frag}
structure ClsTold(K:PySem.W.Frag)(C:Addr):Prop where
 ga:PySem.W.findIn K (.ref C) "__getattribute__" = some (some (.builtin "BaseException.__getattribute__"))
 cl:PySem.W.findIn K (.ref C) "__class__" = some (some (.builtin "object.__class__"))
 no:PySem.W.findIn K (.ref C) "__getattr__" = some none
 sb:PySem.W.subIn K (.ref C) (.type "BaseException")=some true
 so:PySem.W.subIn K (.ref C) (.type "object")=some true
theorem exc_get{R:Result->Shared->Prop}(X:K.In h)(T:ClsTold K C)(hx:h.get? a=some o)(hc:o.cls=.ref C)(hq:R (.ok (.ret (.ref C))) ⟨h,g,d,t,os⟩) :
  codeAny (model prog w) A (.call (.builtin "getset_descriptor.__get__") ⟨[.builtin "object.__class__", .ref a,.ref C],[]⟩) R ⟨h,g,d,t,os⟩:=by
 have hT5:(⟨h,g,d,t,os⟩:Shared).TypeIs (.builtin "object.__class__") "getset_descriptor" := F.typeOf_object_class
 have S2:PySem.W.Looks (model prog w) h (isSubtype (.ref C) (.type (".".intercalate ("object.__class__".cutAt '.').dropLast))) true:=by
  rw[F.owner_object_class]
  exact PySem.W.looks_subIn X T.so
 refine codeAny_call_builtin F.slot_gs_get.plain F.entry_gs_get (F.slot_gs_get.check _ _ _ _ _ _ _ _ hT5 (F.args_gs_get _ _ _) ?_)
 repeat (any_goals (first|assumption|(with_reducible refine wpAny_loadPart_at hx ?_;rw[hc])|with_reducible refine S2.at ?_|wp_step))
 refine⟨Code.quiet_builtin _ (by decide +kernel),codeAny_builtin F.entry_object_class ?_⟩
 repeat (any_goals (first|assumption|(with_reducible refine wpAny_loadPart_at hx ?_;rw[hc])|wp_step))
theorem exc_entry{tk:Tok}{Q:Fin->Shared->Prop}(X:K.In h)(T:ClsTold K C)(hx:h.get? a=some o)(hc:o.cls=.ref C)(hq:Q (.done (.ret (.ref C))) ⟨h,g,d,t,os⟩) :
  wpAny (model prog w) A (Builtin.«object.__getattribute__» ⟨[.ref a,.str "__class__" tk],[]⟩) Q E ⟨h,g,d,t,os⟩:=by
 have hT5:(⟨h,g,d,t,os⟩:Shared).TypeIs (.builtin "object.__class__") "getset_descriptor" := F.typeOf_object_class
 have L1:PySem.W.Looks (model prog w) h (typeLookup (.ref C) "__class__") _:=PySem.W.looks_findIn X T.cl
 have f5:=F.typeOf_object_class
 have f6:=F.slot_gs_get.lookup
 have f7:=F.slot_gs_set.lookup
 repeat (any_goals (first|assumption|(with_reducible refine wpAny_loadPart_at hx ?_;rw[hc])|with_reducible refine L1.at ?_|wp_step))
 refine exc_get X T hx hc ?_
 repeat (any_goals (first|assumption|wp_step))
theorem exc_check{M:Model}{nameV:Value}{Q:Unit->Shared->Prop}(X:K.In h)(T:ClsTold K C)(hx:h.get? a=some o)(hc:o.cls=.ref C)(hq:Q () ⟨h,g,d,t,os⟩):wpAny M A (checkBuiltinCall "BaseException.__getattribute__" ⟨[.ref a,nameV],[]⟩) Q E ⟨h,g,d,t,os⟩:=by
 have k1:builtinKind "BaseException.__getattribute__" = some .slot:=by decide +kernel
 have k2:splitId "BaseException.__getattribute__" = some ("BaseException", "__getattribute__"):=by decide +kernel
 have S1:PySem.W.Looks M h (isSubtype (.ref C) (.type "BaseException")) true:=PySem.W.looks_subIn X T.sb
 have hargs:=F.args_bexc_ga (.ref a) nameV
 simp only[checkBuiltinCall,k1,k2]
 refine wpAny_bind ?_
 unfold isInstance
 repeat (first|(with_reducible refine wpAny_loadPart_at hx ?_;rw[hc])|with_reducible refine S1.at ?_|wp_step)
 exact hq
theorem exc_by{tk:Tok}{Q:Value->Shared->Prop}(X:K.In h)(T:ClsTold K C)(hx:h.get? a=some o)(hc:o.cls=.ref C)(hq:Q (.ref C) ⟨h,g,d,t,os⟩):wpAny (model prog w) A (getAttrBy (.ref a) (.str "__class__" tk) false) Q E ⟨h,g,d,t,os⟩:=by
 have L1:PySem.W.Looks (model prog w) h (typeLookup (.ref C) "__getattribute__") _:=PySem.W.looks_findIn X T.ga
 have L2:PySem.W.Looks (model prog w) h (typeLookup (.ref C) "__getattr__") _:=PySem.W.looks_findIn X T.no
 have f3:=F.excAttr_ValueError.ga.bind (.ref a)
 have x2:(Value.builtin "BaseException.__getattribute__" == Value.builtin "object.__getattribute__")=false:=by decide +kernel
 have x1:(onTheHeap (Value.ref C)&&Value.builtin "BaseException.__getattribute__" == Value.builtin "object.__getattribute__")=false:=by rw[x2];rfl
 repeat (any_goals (first|assumption|(with_reducible refine wpAny_loadPart_at hx ?_;rw[hc])|with_reducible refine L1.at ?_|with_reducible refine L2.at ?_|wp_step))
 refine codeAny_call_builtin F.excAttr_ValueError.ga.plain F.entry_bexc_ga (exc_check X T hx hc (exc_entry X T hx hc ?_))
 repeat (any_goals (first|assumption|wp_step))
theorem exc_attr{Q:Option Value->Shared->Prop}(X:K.In h)(T:ClsTold K C)(hx:h.get? a=some o)(hc:o.cls=.ref C)(hq:Q (some (.ref C)) ⟨h,g,d,t + 1,os⟩):wpAny (model prog w) A (getAttr? (.ref a) "__class__") Q E ⟨h,g,d,t,os⟩:=by
 unfold getAttr? getAttrBy?
 repeat (any_goals (first|assumption|with_reducible apply exc_by X T hx hc|wp_step))
end
end TL
end
section
namespace TL
open PySem PySem.Spec PyProof.Rows L2
def IsCls(K:PySem.W.Frag)(C:Addr):Prop:=∃oc od cd sl,K.lookup C=some ⟨oc,od,.cls cd,sl⟩
theorem isCls_own{K:PySem.W.Frag}{C fI:Addr}(q:ownIn K C fI=true):IsCls K C:=by
 unfold ownIn at q
 split at q
 ·rename_i ho;exact⟨_,_,_,_,ho⟩
 ·cases q
theorem kitx_exc{K:PySem.W.Frag}{a C:Addr}(T:ClsTold K C)(hC:IsCls K C):PySem.W.KitX K (.ref a) (.ref C) (fun h=>∃o,h.get? a=some o/\o.cls=.ref C):=by
 obtain⟨oc,od,cd,sl,hC⟩:=hC
 constructor
 case ty=>exact fun M h _ ⟨o,h1,h2⟩=>h2 ▸ (PySem.W.Looks.ld h1).andThen .now
 case it =>
  intro M h X _ A Q E s k q
  unfold isType loadHead
  exact wpAny_bind (wpAny_loadPart (k _ _ (X _ _ hC)) (wpAny_pure q))
 case ne =>
  intro h tp dd its n sl' X htp
  refine Bool.eq_false_iff.mpr fun q=>?_
  have e:C=tp:=Value.ref.inj (beq_iff_eq.mp q)
  subst e
  have z:=(X _ _ hC).symm.trans htp
  cases z
 case ca =>
  intro prog w A E Q s X ⟨o,h1,h2⟩ k
  obtain⟨h,g,d,t,os⟩:=s
  exact exc_attr X T h1 h2 k
section
variable {X:Cx} {e:Expr} {es:List Expr} {wa:WE} {pos:Pos}
def Ans1(K:PySem.W.Frag)(v:Value)(cs:List (Str×Bool)):Prop:=∀c b,cs.lookup c=some b->∀C,clsAt K c C->ClsTold K C/\IsCls K C/\PySem.W.kitOne K (.ref C) v=some b
def AnsN(K:PySem.W.Frag)(vs:List Value)(cs:List (Str×Bool)):Prop:=∀c b,cs.lookup c=some b->∀C,clsAt K c C->ClsTold K C/\IsCls K C/\PySem.W.kitAny K (.ref C) vs=some b
def wIsE(cs:List (Str×Bool))(wa:WE):WE:=fun τ Q=>wa τ fun t=>match t with | .exc c=>(match cs.lookup c with|some b=>Q (.bl b)|none=>False) | .exf c _ _=>(match cs.lookup c with|some b=>Q (.bl b)|none=>False)|_=>False
theorem exc_now{pins:List (Addr×Obj)}{σ:St}{H:Hp}{s:Shared}{c:Str}{p:Addr}(I:Inv X pins σ H s)(q:ExcAt X.K H c p):∃C,clsAt X.K c C/\∃o,s.heap.get? p=some o/\o.cls=.ref C:=by
 obtain⟨o,C,ws,h1,h2,h3,h4⟩:=q.ex
 exact⟨C,h4,o,(I.hok p _ h1).1,h2⟩
theorem isE_at{K:PySem.W.Frag}{H:Hp}{t:T}{v:V}{cs:List (Str×Bool)}{Q:T->Prop}(q:match t with | .exc c=>(match cs.lookup c with|some b=>Q (.bl b)|none=>False) | .exf c _ _=>(match cs.lookup c with|some b=>Q (.bl b)|none=>False)|_=>False)(r:Rep K H t v) :
  ∃p c b,v=.ref p/\ExcAt K H c p/\cs.lookup c=some b/\Q (.bl b):=by
 have look:∀c:Str,(match cs.lookup c with|some b=>Q (.bl b)|none=>False)->∃b,cs.lookup c=some b/\Q (.bl b):=fun c q=>by
  cases z:cs.lookup c with
  | none=>rw[z]at q;exact q.elim
  | some b=>rw[z]at q;exact⟨b,rfl,q⟩
 cases t with
 | exc c =>
  obtain⟨p,rfl,hp⟩:=rep_exc.mp r
  obtain⟨b,e,q⟩:=look c q
  exact⟨p,c,b,rfl,hp,e,q⟩
 | exf c f u =>
  obtain⟨p,rfl,_,_,_,_,hp,_⟩:=rep_exf.mp r
  obtain⟨b,e,q⟩:=look c q
  obtain⟨o,C,ws,h1,h2,h3,_,h4⟩:=hp.ex
  exact⟨p,c,b,rfl,⟨o,C,ws,h1,h2,h3,h4⟩,e,q⟩
 | _=>exact q.elim
theorem call_isE1{v:Value}{v':V}{cs:List (Str×Bool)}(hv:∀u,RelV v' u->u=v)(G:Ans1 X.K v cs):CallR X (.builtin "isinstance") (fun xs H Q=>∃p c b,xs=[.ref p,v']/\ExcAt X.K H c p/\cs.lookup c=some b/\Q (.bl b) H):=by
 intro pins s σ H xs us Q I r h
 obtain⟨p,c,b,rfl,hp,hl,q⟩:=h
 obtain⟨u,u',rfl,rx,r2⟩:=vals2 r
 cases rx
 obtain rfl:=hv u' r2
 obtain⟨C,hC,ho⟩:=exc_now I hp
 obtain⟨g1,g2,g3⟩:=G c b hl C hC
 exact PySem.W.kia_one (kitx_exc g1 g2) I.kIn ho g3 (fun z=>nomatch z) fun tk=>⟨.bl b,H,I.tok tk,rfl,q⟩
theorem jisO{p pc:Pos}{y:Str}{D:Addr}{cs:List (Str×Bool)}(G:Ans1 X.K (.ref D) cs)(ha:JE X e wa) (hg:Gl X "isinstance") (hm:X.mg "isinstance" = none) (hgc:Gl X y) (hmc:X.mg y=some (.ref D))
  (hd:(y==("__debug__" : Str))=false:=by decide) (hs:starEach [e,.Name y pc] X.env=(false,eval e X.env)::starEach [.Name y pc] X.env:=by exact star1 rfl) (hs1:starEach [.Name y pc] X.env=(false,eval (.Name y pc) X.env)::starEach [] X.env:=by exact star1 rfl)
  (hpl:(backTo pos (starEach [.Name y pc] X.env)).any (·.1)=false:=by exact stars rfl):JE X (.Call (.Name "isinstance" p) [e,.Name y pc] [] pos) (wIsE cs wa):=by
 refine pe_of (pe_callB (call_isE1 (v':=.ref D) (fun u r=>r) G) hg hm boot_isinstance (pa_cons ha (pa_cons (pe_glob (v:=.ref D) hgc hmc rfl hd) pa_nil hs1) hs) (by decide) (by decide) hs hpl) fun σ H Q ⟨τ,Q0,R,hw,k⟩=>?_
 refine⟨τ,_,R,hw,fun t v H1 S1 r1 q1=>?_⟩
 obtain⟨p,c,b,rfl,hp,z,q⟩:=isE_at q1 r1
 exact⟨p,c,b,rfl,hp,z,k _ _ H1 S1 (rep_bl.mpr rfl) q⟩
theorem jisB{p pc:Pos}{y:Str}{T:String}{cs:List (Str×Bool)}(G:Ans1 X.K (.type T) cs)(ha:JE X e wa) (hg:Gl X "isinstance") (hm:X.mg "isinstance" = none) (hgc:Gl X y) (hmc:X.mg y=none) (hvc:bootBuiltins y=some (.type T))
  (hn:y ≠ "__name__" := by decide) (hd:(y==("__debug__" : Str))=false:=by decide) (hs:starEach [e,.Name y pc] X.env=(false,eval e X.env)::starEach [.Name y pc] X.env:=by exact star1 rfl) (hs1:starEach [.Name y pc] X.env=(false,eval (.Name y pc) X.env)::starEach [] X.env:=by exact star1 rfl)
  (hpl:(backTo pos (starEach [.Name y pc] X.env)).any (·.1)=false:=by exact stars rfl):JE X (.Call (.Name "isinstance" p) [e,.Name y pc] [] pos) (wIsE cs wa):=by
 refine pe_of (pe_callB (call_isE1 (v':=.ty T) (fun u r=>r) G) hg hm boot_isinstance (pa_cons ha (pa_cons (pe_bltn (v:=.ty T) hgc hmc hvc rfl hn hd) pa_nil hs1) hs) (by decide) (by decide) hs hpl) fun σ H Q ⟨τ,Q0,R,hw,k⟩=>?_
 refine⟨τ,_,R,hw,fun t v H1 S1 r1 q1=>?_⟩
 obtain⟨p,c,b,rfl,hp,z,q⟩:=isE_at q1 r1
 exact⟨p,c,b,rfl,hp,z,k _ _ H1 S1 (rep_bl.mpr rfl) q⟩
def ClsRow(X:Cx)(es:List Expr)(Ds:List Addr):Prop:=PA X es (fun σ H Q=>Q (Ds.map V.ref) H)
theorem crow0:ClsRow X [] []:=pa_nil
theorem crow{y:Str}{D:Addr}{pc:Pos}{Ds:List Addr}(hg:Gl X y)(hm:X.mg y=some (.ref D))(h:ClsRow X es Ds) (hd:(y==("__debug__" : Str))=false:=by decide):ClsRow X (.Name y pc::es) (D::Ds) :=
 pa_of (pa_cons (pe_glob (v:=.ref D) hg hm rfl hd) h (star1 rfl)) fun σ H Q q=>q
theorem vals_refs:∀{Ds:List Addr}{us:List Value},Vals (Ds.map V.ref) us->us=Ds.map Value.ref
 | [],_,.nil=>rfl
 | d::Ds,_,.cons r rr=>by rw[vals_refs rr];cases r;rfl
theorem call_isEN{Ds:List Addr}{cs:List (Str×Bool)}(G:AnsN X.K (Ds.map Value.ref) cs):CallR X (.builtin "isinstance") (fun xs H Q=>∃p c b tp,xs=[.ref p,.ref tp]/\ExcAt X.K H c p/\H tp=some (.tup (Ds.map V.ref))/\cs.lookup c=some b/\Q (.bl b) H):=by
 intro pins s σ H xs us Q I r h
 obtain⟨p,c,b,tp,rfl,hp,htp,hl,q⟩:=h
 obtain⟨u,u',rfl,rx,r2⟩:=vals2 r
 cases rx
 cases r2
 obtain⟨C,hC,ho⟩:=exc_now I hp
 obtain⟨g1,g2,g3⟩:=G c b hl C hC
 obtain⟨_,its,rv,ob,e1,e2,n,e3⟩:=I.hok tp _ htp
 have:=vals_refs rv
 subst this
 obtain⟨c0,d0,dt,sl⟩:=ob
 dsimp only at e2 e3
 subst e2 e3
 exact PySem.W.kia_tup (kitx_exc g1 g2) I.kIn ho e1 g3 (fun z=>nomatch z) fun tk=>⟨.bl b,H,I.tok tk,rfl,q⟩
theorem jisN{p pc:Pos}{k1:Nat}{ys:List Expr}{Ds:List Addr}{cs:List (Str×Bool)}(G:AnsN X.K (Ds.map Value.ref) cs)(hl:Ds.length<=1000)(ha:JE X e wa) (hg:Gl X "isinstance") (hm:X.mg "isinstance" = none) (hy:ClsRow X ys Ds)
  (hs:starEach [e,.Tuple ys k1 pc] X.env=(false,eval e X.env)::starEach [.Tuple ys k1 pc] X.env:=by exact star1 rfl) (hs1:starEach [.Tuple ys k1 pc] X.env=(false,eval (.Tuple ys k1 pc) X.env)::starEach [] X.env:=by exact star1 rfl)
  (hpl:(backTo pos (starEach [.Tuple ys k1 pc] X.env)).any (·.1)=false:=by exact stars rfl):JE X (.Call (.Name "isinstance" p) [e,.Tuple ys k1 pc] [] pos) (wIsE cs wa):=by
 refine pe_of (pe_callB (call_isEN G) hg hm boot_isinstance (pa_cons ha (pa_cons (pe_tup hy) pa_nil hs1) hs) (by decide) (by decide) hs hpl) fun σ H Q ⟨τ,Q0,R,hw,k⟩=>?_
 refine⟨τ,_,R,hw,fun t v H1 S1 r1 q1=>⟨by rw[List.length_map];exact few hl,fun tp htp=>?_⟩⟩
 obtain⟨p,c,b,rfl,hp,z,q⟩:=isE_at q1 r1
 exact⟨p,c,b,tp,rfl,hp.kp (.of (same_new htp _)),upd_same,z,k _ _ _ (S1.trans (same_new htp _)) (rep_bl.mpr rfl) q⟩
end
end TL
namespace TL
open PySem PySem.Spec PyProof.Rows L2
section
variable {K:PySem.W.Frag} {mg:Str->Option Value} {c0 y:Str} {D DY:Addr} {b0:Bool} {v:Value} {vs:List Value}
theorem cls_same{C:Addr}(h:clsAt K c0 C)(d:clsAt K c0 D):C=D:=Value.ref.inj (Option.some.inj (Option.some.inj (h.symm.trans d)))
theorem ans1_nil:Ans1 K v []:=fun c b h=>by cases h
theorem ansN_nil:AnsN K vs []:=fun c b h=>by cases h
theorem look_cons{c:Str}{b:Bool}{cs:List (Str×Bool)}(h:List.lookup c ((c0,b0)::cs)=some b):(c=c0/\b=b0)∨cs.lookup c=some b:=by
 rw[List.lookup]at h
 split at h
 ·rename_i q
  exact .inl ⟨beq_iff_eq.mp q,(Option.some.inj h).symm⟩
 ·exact .inr h
theorem ans1_cons{cs:List (Str×Bool)}(d:clsAt K c0 D)(T:ClsTold K D)(I:IsCls K D)(k:PySem.W.kitOne K (.ref D) v=some b0)(r:Ans1 K v cs):Ans1 K v ((c0,b0)::cs):=fun c b h C hC=>by
 rcases look_cons h with ⟨rfl,rfl⟩|h
 ·obtain rfl:=cls_same hC d
  exact⟨T,I,k⟩
 ·exact r c b h C hC
theorem ansN_cons{cs:List (Str×Bool)}(d:clsAt K c0 D)(T:ClsTold K D)(I:IsCls K D)(k:PySem.W.kitAny K (.ref D) vs=some b0)(r:AnsN K vs cs):AnsN K vs ((c0,b0)::cs):=fun c b h C hC=>by
 rcases look_cons h with ⟨rfl,rfl⟩|h
 ·obtain rfl:=cls_same hC d
  exact⟨T,I,k⟩
 ·exact r c b h C hC
theorem catches_nil(m:mg y=some (.ref DY)):Catches K mg y []:=⟨DY,m,fun c h=>by cases h⟩
theorem catches_cons{cs:List Str}(d:clsAt K c0 D)(m:mg y=some (.ref DY))(k:PySem.W.exmOne K (.ref D) (.ref DY)=some true)(r:Catches K mg y cs):Catches K mg y (c0::cs):=by
 obtain⟨E,hE,r⟩:=r
 obtain rfl:DY=E:=Value.ref.inj (Option.some.inj (m.symm.trans hE))
 refine⟨DY,m,fun c h C hC=>?_⟩
 rcases List.mem_cons.mp h with rfl|h
 ·obtain rfl:=cls_same hC d
  exact k
 ·exact r c h C hC
end
structure GetC(K:PySem.W.Frag)(f:Str)(C:Addr)(cd:ClassData)(rs:List Addr):Prop where
 ga:PySem.W.findIn K (.ref C) "__getattribute__" = some (some (.builtin "BaseException.__getattribute__"))
 no:PySem.W.findIn K (.ref C) "__getattr__" = some none
 ci:PySem.W.clsIn K C=some cd
 mro:cd.mro=rs.map Value.ref++mroVE
 hd:cd.hasDict=true
 na:PySem.W.findIn K (.ref C) f=some none
def GetF(K:PySem.W.Frag)(f:Str)(cs:List Str):Prop:=∀c∈cs,∀C,clsAt K c C->∃cd rs,GetC K f C cd rs
theorem getF_nil{K:PySem.W.Frag}{f:Str}:GetF K f []:=fun c h=>by cases h
theorem getF_cons{K:PySem.W.Frag}{f c0:Str}{D:Addr}{cs:List Str}{cd:ClassData}{rs:List Addr}(d:clsAt K c0 D)(g:GetC K f D cd rs)(r:GetF K f cs):GetF K f (c0::cs):=fun c h C hC=>by
 rcases List.mem_cons.mp h with rfl|h
 ·obtain rfl:=cls_same hC d
  exact⟨cd,rs,g⟩
 ·exact r c h C hC
theorem handed_rep{K:PySem.W.Frag}{H:Hp}{t:T}{v:V}{u:Value}(r:Rep K H t v)(h:RelV v u):PySem.W.handedIn u=true:=by
 cases t with
 | non=>obtain rfl:=rep_non.mp r;obtain rfl:u=.none:=h;rfl
 | bl b=>obtain rfl:=rep_bl.mp r;obtain rfl:u=.bool b:=h;rfl
 | int i=>obtain rfl:=rep_int.mp r;obtain⟨t,rfl⟩:=h;rfl
 | str x=>obtain rfl:=rep_str.mp r;obtain⟨t,rfl⟩:=h;rfl
 | tup ts=>obtain⟨p,_,rfl,_⟩:=rep_tup.mp r;obtain rfl:u=.ref p:=h;rfl
 | lst ts=>obtain⟨p,_,rfl,_⟩:=rep_lst.mp r;obtain rfl:u=.ref p:=h;rfl
 | dct=>obtain⟨p,rfl,_⟩:=rep_dct.mp r;obtain rfl:u=.ref p:=h;rfl
 | exc c=>obtain⟨p,rfl,_⟩:=rep_exc.mp r;obtain rfl:u=.ref p:=h;rfl
 | exf c f t=>obtain⟨p,rfl,_⟩:=rep_exf.mp r;obtain rfl:u=.ref p:=h;rfl
 | dic ks ts=>obtain⟨p,o,kvs,rfl,_⟩:=rep_dic.mp r;obtain rfl:u=.ref p:=h;rfl
def wFld(f:Str)(cs:List Str)(wa:WE):WE:=fun τ Q=>wa τ fun t=>match t with | .exf c g u=>g=f/\c∈cs/\Q u|_=>False
section
variable {X:Cx} {e:Expr} {wa:WE} {pos:Pos}
theorem jfld{f:Str}{cs:List Str}(G:GetF X.K f cs)(ha:JE X e wa)(hb:attributeBase e f X.env (eval e X.env)=eval e X.env:=by rfl):JE X (.Attribute e f pos) (wFld f cs wa):=by
 intro pins s σ H Q I ⟨τ,Q0,R,hw,k⟩
 refine attr_of hb (thn (ha pins s σ H (fun v H1=>∃t,Same H H1/\Rep X.K H1 t v/\(match t with | .exf c g u=>g=f/\c∈cs/\Q0 u|_=>False)) I ⟨τ,_,R,hw,fun t v H1 S1 r q=>⟨t,S1,r,q⟩⟩) fun u s1 ⟨x,H1,I1,rx,t,S1,rt,q⟩=>?_)
 cases t with
 | exf c g t =>
  obtain⟨rfl,hc,q⟩:=q
  obtain⟨p,rfl,d,od,u',y,E,ry,rt'⟩:=rep_exf.mp rt
  obtain⟨o,C,ws,h1,h2,h3,h4,h5⟩:=E.ex
  obtain⟨cd,rs,g⟩:=G _ hc C h5
  have ox:=(I1.hok p _ h1).1
  have odx:=(I1.hok d _ E.dict).1
  have IA:PySem.W.InstAt s1.heap p o C (some od):=⟨ox,h2,by unfold PySem.W.notCls;rw[h3],by rw[h4];exact odx⟩
  obtain rfl:u=.ref p:=rx
  have hh:PySem.W.hasDictIn X.K C=true:=by unfold PySem.W.hasDictIn;rw[g.ci];exact g.hd
  exact get_exc I1.kIn IA g.ga g.no g.ci g.mro (PySem.W.findObj_own hh g.na rfl E.look) (handed_rep rt' ry) ⟨y,H1,I1.tok _,ry,k t y H1 S1 rt' q⟩
 | _=>exact q.elim
end
end TL
end
section
namespace TL
open PySem PySem.Spec PyProof.Rows L2
section
variable {X:Cx} {a b c e:Expr} {es:List Expr} {wa wb wc w:WE} {pos:Pos}
def rIxST(x y:T)(Q:T->Prop):Prop:=match x,y with
 | .str z,.int i=>z.length<=1000/\(match atI z.cps.toList i with|some c=>Q (.str ⟨#[c]⟩)|none=>False)
 | _,_=>False
theorem jixS(ha:JE X a wa)(hb:JE X b wb)(hs:PlainIx b:=by intro _ _;rfl):JE X (.Subscript a b pos) (w2 rIxST wa wb):=pe_of (pe_ix ix_seq ha hb hs) (up2 fun t1 t2 v1 v2 H Q0 Q r1 r2 q k=>by
 cases t1<;>cases t2<;>first|exact q.elim|skip
 rename_i z i
 obtain⟨hz,q⟩:z.length<=1000/\(match atI z.cps.toList i with|some c=>Q0 (.str ⟨#[c]⟩)|none=>False):=q
 cases e:atI z.cps.toList i with
 | none=>rw[e]at q;exact q.elim
 | some c =>
  rw[e]at q
  exact .inr (.inr ⟨z,i,c,rep_str.mp r1,rep_int.mp r2,few hz,e,k _ _ H (.refl H) (rep_str.mpr rfl) q⟩))
def rAddST(x y:T)(Q:T->Prop):Prop:=match x,y with
 | .str i,.str j=>i.length + j.length<=1000/\Q (.str (i++j))
 | _,_=>False
theorem b_addS:BR X .Add rAddST:=⟨_,op_add_str,fun t1 t2 v1 v2 H Q0 Q r1 r2 q k=>by
 cases t1<;>cases t2<;>first|exact q.elim|skip
 rename_i i j
 obtain⟨hz,q⟩:i.length + j.length<=1000/\Q0 (.str (i++j)):=q
 exact⟨i,j,rep_str.mp r1,rep_str.mp r2,few hz,k _ _ H (.refl H) (rep_str.mpr rfl) q⟩⟩
def repS(z:Str)(n:Int):Str:=if n < 1 then Str.empty else if (n==1||z.length==0)=true then z else ⟨(List.replicate n.toNat z.cps).foldl (· ++ ·) #[]⟩
def rMulST(x y:T)(Q:T->Prop):Prop:=match x,y with
 | .str z,.int n=>z.length<=1/\0<=n/\n<=1000/\Q (.str (repS z n))
 | _,_=>False
def tTruT(wa:WE):WT:=fun τ Q=>wa τ fun x=>match x with | .bl k=>Q k | .lst ts=>Q (!ts.isEmpty)|_=>False
def strsOf:List T->Option (List Str)
 | []=>some []
 | .str z::r=>(strsOf r).map (z :: ·)
 | _=>none
theorem strsOf_eq:∀{ts:List T}{zs:List Str},strsOf ts=some zs->ts=zs.map T.str
 | [],zs,h=>by simp only[strsOf,Option.some.injEq]at h;subst h;rfl
 | t::r,zs,h=>by
  cases t<;>simp only[strsOf,reduceCtorEq]at h
  rename_i z
  cases e:strsOf r with
  | none=>rw[e]at h;cases h
  | some us =>
   rw[e]at h
   simp only[Option.map_some,Option.some.injEq]at h
   subst h
   rw[strsOf_eq e]
   rfl
theorem strsOf_map(zs:List Str):strsOf (zs.map T.str)=some zs:=by
 induction zs with
 | nil=>rfl
 | cons z r ih=>simp only[List.map_cons,strsOf,ih,Option.map_some]
theorem reps_strs_inv{K:PySem.W.Frag}{H:Hp}:∀{zs:List Str}{vs:List V},Reps K H (zs.map T.str) vs->vs=zs.map V.str
 | [],vs,r=>by rw[List.map_nil,reps_nil]at r;exact r
 | z::zs,vs,r=>by
  rw[List.map_cons,reps_cons]at r
  obtain⟨v,vr,rfl,r1,r2⟩:=r
  rw[rep_str.mp r1,reps_strs_inv r2]
  rfl
def cInT(x y:T)(Q:Bool->Prop):Prop:=match x,y with
 | .str z,.lst ts=>(match strsOf ts with|some zs=>Q (zs.contains z)|none=>False)
 | .int z,.lst ts=>(match intsOf ts with|some zs=>Q (zs.contains z)|none=>False)
 | _,_=>False
def cNotInT(x y:T)(Q:Bool->Prop):Prop:=match x,y with
 | .str z,.lst ts=>(match strsOf ts with|some zs=>Q (!zs.contains z)|none=>False)
 | .int z,.lst ts=>(match intsOf ts with|some zs=>Q (!zs.contains z)|none=>False)
 | _,_=>False
theorem strsAre_of:∀{zs:List Str}{us:List Value},Vals (zs.map V.str) us->StrsAre us zs
 | [],us,h=>by cases h;exact .nil
 | z::zs,us,h=>by
  simp only[List.map_cons]at h
  cases h with
  | cons r1 r2=>obtain⟨t,rfl⟩:=r1;exact .cons z t (strsAre_of r2)
def rSortT(ts:List T)(Q:T->Prop):Prop:=match ts with
 | [.lst xs]=>(match strsOf xs with|some zs=>zs.length < 64/\∀us:List Str,us.Perm zs->sortedS us=true->Q (.lst (us.map T.str))|none=>False)
 | _=>False
end
end TL
end
section
namespace TL
open PySem PySem.Spec PyProof.Rows L2
section
variable {X:Cx}
def rIntT(ts:List T)(Q:T->Prop):Prop:=match ts with
 | [.int i]=>Q (.int i)
 | [.bl k]=>Q (.int (if k then 1 else 0))
 | _=>False
theorem ty_int:BlR X (.type "int") rIntT:=by
 refine⟨_,call_int1,fun ts vs H Q0 Q r q k=>?_⟩
 unfold rIntT at q
 split at q
 ·obtain⟨v,rfl,r1⟩:=reps1 r
  exact .inl ⟨_,by rw[rep_int.mp r1],k _ _ H (.refl H) (rep_int.mpr rfl) q⟩
 ·obtain⟨v,rfl,r1⟩:=reps1 r
  exact .inr ⟨_,by rw[rep_bl.mp r1],k _ _ H (.refl H) (rep_int.mpr rfl) q⟩
 ·exact q.elim
end
end TL
namespace TL
open PySem PySem.Spec PyProof.Rows L2
section
end
end TL
namespace TL
open PySem PySem.Spec PyProof.Rows L2
section
variable {X:Cx}
end
end TL
namespace TL
open PySem PySem.Spec PyProof.Rows L2
section
variable {X:Cx}
theorem ints_at:∀{ns:List Int}{us:List Value}{i:Nat}{v:Value},IntsAre us ns->us[i]?=some v->∃t,v=.int (ns.getD i 0) t
 | _,_,i,v,.nil,h=>by simp at h
 | _,_,0,v,.cons n t r,h=>by
  simp at h
  exact⟨t,by simpa using h.symm⟩
 | _,_,i + 1,v,.cons n t r,h=>by
  simp only[List.getElem?_cons_succ]at h
  obtain⟨t',e⟩:=ints_at r h
  exact⟨t',by simpa using e⟩
theorem call_maxL(hc:X.calm=true):CallR X (.builtin "max") (fun xs H Q=>∃(p:Addr) (ns:List Int),xs=[.ref p]/\SqL X.K H p (ns.map V.int)/\ns≠[]/\∀m∈ns,(∀n∈ns,n<=m)->Q (.int m) H):=by
 intro pins s σ H xs us Q I r h
 obtain⟨p,ns,rfl,hq,hne,q⟩:=h
 obtain⟨u,rfl,rx⟩:=vals1 r
 cases rx
 obtain⟨its,r',pl,hz⟩:=I.list hq
 have hi:IntsAre its ns:=intsAre_of r'
 have hlen:its.length=ns.length:=by have:=r'.length;simpa using this.symm
 have hl:=pl.isList
 have hlt:p < s.heap.objs.size:=by obtain⟨_,e,_⟩:=hl;exact Heap.lt_size e
 have hn0:=List.length_pos_iff.mpr hne
 have hn:0 < its.toArray.size:=by
  rw[List.size_toArray,hlen]
  exact hn0
 refine call_max_walk (wpAny_pyIter_list hl ?_)
 refine⟨s.heap.objs.size,[s.heap.objs.size,p],[s.heap.objs.size],its.toArray.size,_,_,_,rfl,Walks.list (A:=X.A.in1) (I.ok.hd hc) _ p (Nat.ne_of_lt hlt) its.toArray,
  ⟨⟨_,Heap.get?_push_size _ rfl,rfl,rfl⟩,hl.push _⟩,fun b hb'=>?_,hn,CmpOf.ints_gt (fun i=>ns.getD i 0) (fun i v hv=>ints_at hi (by simpa using hv)),fun v h' tk hP hk=>?_⟩
 ·show b < (s.heap.push _).objs.size
  rw[Heap.size_push]
  rcases List.mem_cons.mp hb' with rfl|hb'
  ·exact Nat.lt_succ_self _
  ·rcases List.mem_cons.mp hb' with rfl|hb'
   ·exact Nat.lt_succ_of_lt hlt
   ·cases hb'
 ·have hb:=argBest_gt (fun i=>ns.getD i 0) (its.toArray.size - 1)
  have e1:its.toArray.size=ns.length:=by rw[List.size_toArray,hlen]
  have hP':its[argBest (fun i j=>decide (ns.getD i 0 > ns.getD j 0)) (its.toArray.size - 1)]?=some v:=by
   have:=hP
   rwa [List.getElem?_toArray]at this
  rw[e1]at hb hP'
  generalize argBest (fun i j=>decide (ns.getD i 0 > ns.getD j 0)) (ns.length - 1)=B at hb hP'
  obtain⟨t,rfl⟩:=ints_at hi hP'
  have lt:B < ns.length:=by have:=hb.1;omega
  refine⟨.int _,H,I.kept (t':=tk) (LSm.kept_iter hk),⟨t,rfl⟩,q _ ?_ fun n hm=>?_⟩
  ·rw[List.getD_eq_getElem?_getD,List.getElem?_eq_getElem lt]
   exact List.getElem_mem lt
  ·obtain⟨j,hj,rfl⟩:=List.getElem_of_mem hm
   have:=hb.2 j (by omega)
   rw[List.getD_eq_getElem?_getD,List.getElem?_eq_getElem hj]at this
   exact this
def rMaxLT(ts:List T)(Q:T->Prop):Prop:=match ts with
 | [.lst xs]=>(match intsOf xs with|some ns=>ns≠[]/\∀m∈ns,(∀n∈ns,n<=m)->Q (.int m)|none=>False)
 | _=>False
theorem bl_maxL(hc:X.calm=true):BlR X (.builtin "max") rMaxLT:=by
 refine⟨_,call_maxL hc,fun ts vs H Q0 Q r q k=>?_⟩
 unfold rMaxLT at q
 split at q
 ·obtain⟨v,rfl,r1⟩:=reps1 r
  split at q
  ·rename_i ns e
   rw[intsOf_eq e,rep_lst]at r1
   obtain⟨p,ys,rfl,sq,rr⟩:=r1
   rw[reps_ints_inv rr]at sq
   exact⟨p,ns,rfl,sq.sq,q.1,fun m hm h=>k _ _ H (.refl H) (rep_int.mpr rfl) (q.2 m hm h)⟩
  ·exact q.elim
 ·exact q.elim
end
end TL
end
section
namespace TL
open PySem PySem.Spec PyProof.Rows L2
section
variable {X:Cx} {a b e:Expr} {wa wb:WE} {pos:Pos}
def rJoinV(K:PySem.W.Frag):V->List V->Hp->VK->Prop:=fun x vs H Q=>∃(sep:Str) (p:Addr) (zs:List Str),x=.str sep/\vs=[.ref p]/\SqL K H p (zs.map V.str)/\(zs.map (·.length)).sum + zs.length * sep.length<=16777216/\Q (.str (Txt.join sep zs)) H
theorem mt_join:MtR X "str.join" (rJoinV X.K):=by
 intro pins s σ H x vs v us Q I rx rv h
 obtain⟨sep,p,zs,rfl,rfl,hq,hl,q⟩:=h
 obtain⟨t,rfl⟩:=rx
 obtain⟨u,rfl,ru⟩:=vals1 rv
 cases ru
 obtain⟨its,r,pl,hz⟩:=I.list hq
 exact join_list pl.isList (by simpa using strsAre_of r) hl fun t' k=>⟨.str _,H,I.tok _,⟨_,rfl⟩,q⟩
def rJoinT(sep:Str)(y:T)(Q:T->Prop):Prop:=match y with
 | .lst ts=>(match strsOf ts with|some zs=>(zs.map (·.length)).sum + zs.length * sep.length<=16777216/\Q (.str (Txt.join sep zs))|none=>False)
 | _=>False
def rJoinTs(sep:Str)(ts:List T)(Q:T->Prop):Prop:=match ts with|[y]=>rJoinT sep y Q|_=>False
def wJoin(wa wb:WE):WE:=fun τ Q=>wa τ fun x=>match x with
 | .str sep=>wb τ fun y=>rJoinT sep y Q
 | _=>False
theorem jjoin{apos:Pos}(ha:JE X a wa)(hb:JE X b wb)(hst:starEach [b] X.env=[(false,eval b X.env)]:=by exact star1 rfl) (hbase:attributeBase a "join" X.env (eval a X.env)=eval a X.env:=by rfl)
  (hfew:((backTo pos (starEach [b] X.env)).all (fun x=>!x.1)&&(backToKw pos (keywordEach [] X.env)).all (fun x=>x.1.isSome)
   && decide ([b].length + ([]:List Keyword).length + (if ([]:List Keyword).isEmpty then 0 else 1) < 30))=true:=by rfl)
  (hline:(apos.endLine==pos.line)=true:=by rfl):JE X (.Call (.Attribute a "join" apos) [b] [] pos) (wJoin wa wb):=by
 refine pe_of (pe_bm F.plainAttrs_str F.slot_str_join F.type_str_join mt_join ha (ja hb ja0 hst) hbase hfew hline hst (stars rfl)) fun σ H Q ⟨τ,Q0,R,hw,k⟩=>?_
 refine⟨τ,_,R,hw,fun t v H1 S1 r1 q1=>?_⟩
 cases t<;>first|exact q1.elim|skip
 rename_i sep
 have e1:=rep_str.mp r1
 subst e1
 refine⟨rfl,τ,fun ts=>rJoinTs sep ts Q0,R.mono S1,q1,fun ts vs H2 S2 rr q2=>?_⟩
 obtain⟨y,rfl,q3⟩:∃y,ts=[y]/\rJoinT sep y Q0:=by
  cases ts with
  | nil=>exact q2.elim
  | cons y r =>
   cases r with
   | nil=>exact⟨y,rfl,q2⟩
   | cons _ _=>exact q2.elim
 obtain⟨v,rfl,r2⟩:=reps1 rr
 clear rr q2
 cases y<;>first|exact q3.elim|skip
 rename_i ys
 have q4:(match strsOf ys with|some zs=>(zs.map (·.length)).sum + zs.length * sep.length<=16777216/\Q0 (.str (Txt.join sep zs))|none=>False):=q3
 clear q3
 cases ez:strsOf ys with
 | none=>rw[ez]at q4;exact q4.elim
 | some zs =>
  rw[ez]at q4
  rw[strsOf_eq ez,rep_lst]at r2
  obtain⟨p,ws,rfl,sq,r3⟩:=r2
  have ew:=reps_strs_inv r3
  subst ew
  exact⟨sep,p,zs,rfl,rfl,sq.sq,q4.1,k _ _ H2 (S1.trans S2) (rep_str.mpr rfl) q4.2⟩
def rStrT(ts:List T)(Q:T->Prop):Prop:=match ts with
 | [.str z]=>Q (.str z)
 | [.int i]=>i.natAbs < 2 ^ 64/\Q (.str (Str.ofString (toString i)))
 | _=>False
def rLenST(ts:List T)(Q:T->Prop):Prop:=match ts with
 | [.str z]=>z.length<=1000/\Q (.int z.length)
 | _=>False
theorem bl_lenS:BlR X (.builtin "len") rLenST:=by
 refine⟨_,call_len_str,fun ts vs H Q0 Q r q k=>?_⟩
 unfold rLenST at q
 split at q
 ·obtain⟨v,rfl,r1⟩:=reps1 r
  have:=rep_str.mp r1
  subst this
  exact⟨_,rfl,few q.1,k _ _ H (.refl H) (rep_int.mpr rfl) q.2⟩
 ·exact q.elim
def rSlSV:V->Option Int->Option Int->Hp->VK->Prop:=fun x lo hi H Q=>∃z:Str,x=.str z/\z.length<=1000/\Q (.str (Txt.slice z lo hi)) H
theorem sl_str:SlR X rSlSV:=by
 intro pins s σ H x v vl vu lo hi sl Q I rx hs pl pu h
 obtain⟨z,rfl,hz,q⟩:=h
 obtain⟨t,rfl⟩:=rx
 refine⟨"str", _,F.slot_str_getitem.lookup,typeIs_str _ _ _,?_⟩
 obtain⟨l,el,el'⟩:∃l:Option (Int×Tok),vl=partValue l/\l.map (·.1)=lo:=by
  cases pl with
  | none=>exact⟨none,rfl,rfl⟩
  | int i t=>exact⟨some (i,t),rfl,rfl⟩
 obtain⟨u,eu,eu'⟩:∃u:Option (Int×Tok),vu=partValue u/\u.map (·.1)=hi:=by
  cases pu with
  | none=>exact⟨none,rfl,rfl⟩
  | int i t=>exact⟨some (i,t),rfl,rfl⟩
 subst el eu el' eu'
 obtain⟨o,h1,h2,h3⟩:=hs
 refine wpAny_getItem_str_slice (l:=l) (u:=u) (st:=none) ⟨o,h1,h2,h3⟩ rfl (post_val_or_str ⟨Nat.le_trans (Txt.slice_le z _ _) (few hz),fun t' k=>⟨.str _,H,I.tok _,⟨_,rfl⟩,q⟩⟩)
def wSlS(wa:WE)(wl wh:WO):WE:=fun τ Q=>wa τ fun x=>wl τ fun lo=>wh τ fun hi=>match x with | .str z=>z.length<=1000/\Q (.str (Txt.slice z lo hi))|_=>False
theorem jslS{lo hi:Option Expr}{wl wh:WO}{p2:Pos}(ha:JE X e wa)(hl:JO X lo wl)(hh:JO X hi wh):JE X (.Subscript e (.Slice lo hi none p2) pos) (wSlS wa wl wh):=pe_of (pe_slice sl_str ha hl hh) fun σ H Q ⟨τ,Q0,R,hw,k⟩ =>
 ⟨τ,_,R,hw,fun t v H1 S1 r1 q1=>⟨τ,_,R.mono S1,q1,fun l H2 S2 q2=>⟨τ,_,R.mono (S1.trans S2),q2,fun h H3 S3 q3=>by
  cases t<;>first|exact q3.elim|skip
  rename_i z
  exact⟨z,rep_str.mp r1,q3.1,k _ _ _ (S1.trans (S2.trans S3)) (rep_str.mpr rfl) q3.2⟩⟩⟩⟩
def rAddAT(x y:T)(Q:T->Prop):Prop:=match x,y with
 | .int i,.int j=>Q (.int (i + j))
 | .tup xs,.tup ys=>xs.length + ys.length<=1000/\Q (.tup (xs++ys))
 | .lst xs,.lst ys=>xs.length + ys.length<=1000/\Q (.lst (xs++ys))
 | .str i,.str j=>i.length + j.length<=1000/\Q (.str (i++j))
 | _,_=>False
theorem Inv.unfreeze{pins:List (Addr×Obj)}{σ:St}{H:Hp}{s:Shared}{p:Addr}{o:Obj}{xs:List V}(I:Inv X pins σ H s)(h:H p=some (.frz o (.lst xs)))(h0:X.H₀ p=none):Inv X pins σ (upd H p (.lst xs)) s:=by
 have nn:∀{b:Addr},H b=none->b≠p:=fun q z=>by subst z;rw[h]at q;cases q
 have n0:∀{b:Addr}{u:HO},X.H₀ b=some u->b≠p:=fun q z=>by subst z;rw[h0]at q;cases q
 refine⟨I.ok,I.os,I.bare,⟨I.base.keep,I.base.slot,fun b o q n hx=>?_,I.base.there,fun b ys q=>?_,fun b o u q=>?_,fun b ps q=>?_⟩,I.loc,I.cell,?_,fun x c q=>?_,fun q hq=>?_,fun b ob q=>?_,I.len⟩
 ·have:=I.base.free b o q n hx
  rw[upd_ne (nn this)];exact this
 ·rw[upd_ne (n0 q)];exact I.base.tups b ys q
 ·rw[upd_ne (n0 q)];exact I.base.frzs b o u q
 ·obtain⟨more,e⟩:=I.base.tbls b ps q
  exact⟨more,by rw[upd_ne (n0 q)];exact e⟩
 ·rw[upd_ne (nn I.free)];exact I.free
 ·rw[upd_ne (nn (I.freeC x c q))];exact I.freeC x c q
 ·obtain⟨a1,a2,a3⟩:=I.pin q hq
  exact⟨a1,by rw[upd_ne (nn a2)];exact a2,a3⟩
 ·by_cases hb:b=p
  ·subst hb
   rw[upd_same]at q
   cases q
   obtain⟨_,z⟩:=I.hok _ _ h
   exact z
  ·rw[upd_ne hb]at q
   refine(I.hok b ob q).stay (fun c v _ q=>q) (fun c q=>?_) fun c ys q=>?_
   ·rw[upd_ne (by rintro rfl;rw[h]at q;cases q)];exact q
   ·rw[upd_ne (by rintro rfl;rw[h]at q;cases q)];exact q
def sOwnC(i:Nat)(w:WE):WS:=fun D τ=>w τ fun t=>match t with | .lst ts=>D.nx (sput τ i (.own ts))|_=>False
end
end TL
end
section
namespace TL
open PySem PySem.Spec PyProof.Rows L2
section
variable {X:Cx} {a b:List Stmt} {t u:TS}
end
abbrev SpO:=List T->(List T->Prop)->Prop
def spO(K:PySem.W.Frag)(n:Nat)(S:SpO):Sp:=fun vs H Q _=>∃(ts:List T) (Q0:List T->Prop),vs.length=n/\Reps K H ts vs/\S ts Q0/\∀us p ws H',Same H H'->H p=none->H' p=some (.lst ws)->Reps K H' us ws->Q0 us->Q (.ref p) H'
structure FnO(P:Program)(w:World)(K:PySem.W.Frag)(mg:Str->Option Value)(base:Heap)(k:Nat)(f:Addr)(fd:FuncData)(ps:List Str)(S:SpO):Prop where
 ok:FnOk P w K mg base CX0 k f fd ps (spO K ps.length S)
 len:∀ts Q,S ts Q->ts.length=ps.length
def endO(i:Nat)(Q:List T->Prop):DT:={nx:=fun τ=>match sget τ i with | .own us=>Q us|_=>False,rt:=fun _=>False}
def CalO(P:Program)(w:World)(K:PySem.W.Frag)(mg:Str->Option Value)(base:Heap)(k:Nat)(x:Str)(ps:List Str)(S:SpO):Prop :=
 ∃f fd,FnO P w K mg base k f fd ps S/\Binds K fd ps []/\PySem.W.keepIn K (.ref f)=true/\mg x=some (.ref f)
theorem CalO.mk{P:Program}{w:World}{K:PySem.W.Frag}{mg:Str->Option Value}{base:Heap}{k:Nat}{x qual:Str}{ps:List Str}{S:SpO}{st:Stmt}{f:Addr}{fd:FuncData}(F:Fun K x qual st f fd)(m:mg x=some (.ref f))
  (b:Binds K fd ps []) (h:FnO P w K mg base k f fd ps S):CalO P w K mg base k x ps S:=⟨f,fd,h,b,F.kp,m⟩
abbrev frO(S:SpO):SpT:=fun ts Q=>S ts fun us=>Q (.lst us)
theorem FnO.frz{P:Program}{w:World}{K:PySem.W.Frag}{mg:Str->Option Value}{base:Heap}{k:Nat}{f:Addr}{fd:FuncData}{ps:List Str}{S:SpO}(F:FnO P w K mg base k f fd ps S):FnT P w K mg base k f fd ps (frO S):=by
 refine⟨⟨fun vs H Q E ⟨ts,Q0,e,_⟩=>e,fun A outer s H args us vs Q E hr e0 hb hv ⟨ts,Q0,e,r,hS,q⟩=>?_⟩,fun ts Q h=>F.len _ _ h⟩
 refine codeAny_mono (F.ok.run A outer s H args us vs (fun v H'=>∃zs p ws,v=.ref p/\Same H H'/\H p=none/\H' p=some (.lst ws)/\Reps K H' zs ws/\Q0 (.lst zs)) E hr e0 hb hv ⟨ts,_,e,r,hS,fun zs p ws H' S1 h0 hp rr n=>⟨zs,p,ws,rfl,S1,h0,hp,rr,n⟩⟩) fun res s' h=>?_
 cases res with
 | error e=>exact h
 | ok fl =>
  cases fl with
  | ret u =>
   obtain⟨v,H',os,bare,un,hok,rv,zs,p,ws,rfl,S1,h0,hp,rr,n⟩:=h
   obtain⟨z,its,m,rl,eh⟩:=hok p _ hp
   have K1:=Kp.write hp (.frz {cls:=.type "list", data:=.seq its.toArray m} (.lst ws))
   have ne:∀{b:Addr}{o:HO},H b=some o->b≠p:=fun q z=>by subst z;rw[h0]at q;cases q
   have S2:Same H (upd H' p (.frz {cls:=.type "list", data:=.seq its.toArray m} (.lst ws))):=fun b o q'=>by rw[upd_ne (ne q')];exact S1 b o q'
   refine⟨.ref p,_,os,bare,⟨un.keep,un.slot,fun b o q' n' hx=>?_,un.there,fun b ys q'=>?_,fun b o u' q'=>?_,fun b ps' q'=>?_⟩,fun b ob q'=>?_,rv,q (.lst zs) (.ref p) _ S2 (rep_lst.mpr ⟨p,ws,rfl,.inl ⟨_,upd_same⟩,rr.kp K1⟩) n⟩
   ·have e1:=un.free b o q' n' hx
    rw[upd_ne (by rintro rfl;rw[hp]at e1;cases e1)]
    exact e1
   ·rw[upd_ne (ne q')];exact un.tups b ys q'
   ·rw[upd_ne (ne q')];exact un.frzs b o u' q'
   ·obtain⟨more,e1⟩:=un.tbls b ps' q'
    exact⟨more,by rw[upd_ne (ne q')];exact e1⟩
   ·by_cases hb:b=p
    ·subst hb
     rw[upd_same]at q'
     cases q'
     exact⟨eh,z,its,m,rl,eh⟩
    ·rw[upd_ne hb]at q'
     refine(hok b ob q').stay (fun c v hc q=>q) (fun c q=>?_) fun c ys q=>?_
     ·rw[upd_ne (by rintro rfl;rw[hp]at q;cases q)];exact q
     ·rw[upd_ne (by rintro rfl;rw[hp]at q;cases q)];exact q
  | next=>exact False.elim h
  | brk=>exact False.elim h
  | cont=>exact False.elim h
theorem CalO.frz{P:Program}{w:World}{K:PySem.W.Frag}{mg:Str->Option Value}{base:Heap}{k:Nat}{x:Str}{ps:List Str}{S:SpO}(C:CalO P w K mg base k x ps S):Cal P w K mg base k x ps (frO S) :=
 let ⟨f,fd,F,b,kp,m⟩:=C;⟨f,fd,F.frz,b,kp,m⟩
section
variable {X:Cx} {e:Expr} {b:Expr} {es:List Expr} {wa wb w:WE} {ws:WA} {pos:Pos}
def sOwnF(i:Nat)(S:SpO)(ws:WA):WS:=fun D τ=>ws τ fun ts=>S ts fun us=>D.nx (sput τ i (.own us))
def sSetIx(i:Nat)(wb wa:WE):WS:=fun D τ=>match sget τ i with
 | .own ts=>wa τ fun t=>wb τ fun y=>(match y with | .int k=>(match ixN ts.length k with|some j=>D.nx (sput τ i (.own (ts.set j t)))|none=>False)|_=>False)
 | _=>False
theorem Reps.set{K:PySem.W.Frag}{H:Hp}{t:T}{v:V}(r:Rep K H t v):∀{ts:List T}{vs:List V}{j:Nat},Reps K H ts vs->Reps K H (ts.set j t) (vs.set j v)
 | [],vs,j,h=>by
  rw[reps_nil]at h
  subst h
  exact reps_nil.mpr rfl
 | x::ts,vs,j,h=>by
  rw[reps_cons]at h
  obtain⟨u,us,rfl,h1,h2⟩:=h
  cases j with
  | zero=>exact reps_cons.mpr ⟨_,_,rfl,r,h2⟩
  | succ j=>exact reps_cons.mpr ⟨_,_,rfl,h1,Reps.set r h2⟩
def sCatO(i j:Nat)(ws:WA):WS:=fun D τ=>match sget τ j with
 | .own ts=>ws τ fun us=>us.length<=1000/\ts.length + us.length<=1000/\D.nx (sput τ i (.own (ts++us)))
 | _=>False
def iOwn(i:Nat):WI:=fun τ Q=>match sget τ i with | .own ts=>Q ts|_=>False
end
end TL
namespace TL
open PySem PySem.Spec PyProof.Rows L2
mutual
def noL:T->Bool
 | .non | .bl _ | .int _ | .str _=>true
 | .tup ts=>noLs ts
 | _=>false
def noLs:List T->Bool
 | []=>true
 | t::ts=>noL t&&noLs ts
end
mutual
theorem Rep.noL{K:PySem.W.Frag}{H H':Hp}(k:∀a xs,SqT K H a xs->SqT K H' a xs):∀{t:T}{v:V},TL.noL t=true->Rep K H t v->Rep K H' t v
 | .non,v,_,h=>by rw[rep_non]at h ⊢;exact h
 | .bl b,v,_,h=>by rw[rep_bl]at h ⊢;exact h
 | .int i,v,_,h=>by rw[rep_int]at h ⊢;exact h
 | .str x,v,_,h=>by rw[rep_str]at h ⊢;exact h
 | .tup ts,v,n,h=>by
  rw[rep_tup]at h ⊢
  obtain⟨p,vs,e,s,r⟩:=h
  exact⟨p,vs,e,k p vs s,Reps.noL k (by rw[TL.noL]at n;exact n) r⟩
 | .lst ts,v,n,h=>by simp[TL.noL]at n
 | .dct,v,n,h=>by simp[TL.noL]at n
 | .exc c,v,n,h=>by simp[TL.noL]at n
 | .exf c f t,v,n,h=>by simp[TL.noL]at n
 | .dic _ _,v,n,h=>by simp[TL.noL]at n
theorem Reps.noL{K:PySem.W.Frag}{H H':Hp}(k:∀a xs,SqT K H a xs->SqT K H' a xs):∀{ts:List T}{vs:List V},TL.noLs ts=true->Reps K H ts vs->Reps K H' ts vs
 | [],vs,_,h=>by rw[reps_nil]at h ⊢;exact h
 | t::ts,vs,n,h=>by
  rw[reps_cons]at h ⊢
  obtain⟨v,r,e,h1,h2⟩:=h
  rw[TL.noLs,Bool.and_eq_true]at n
  exact⟨v,r,e,Rep.noL k n.1 h1,Reps.noL k n.2 h2⟩
end
section
variable {X:Cx}
theorem same_thaw{H H2:Hp}{p:Addr}{o:Obj}{vs:List V}(hp:H p=some (.lst vs))(S:Same (upd H p (.frz o (.lst vs))) H2):Same H (upd H2 p (.lst vs)):=fun b ob q=>by
 by_cases e:b=p
 ·subst e
  rw[upd_same]
  rw[hp]at q
  exact q
 ·rw[upd_ne e]
  exact S b ob (by rw[upd_ne e];exact q)
def wFz(i:Nat)(w:WE):WE:=fun τ Q=>match sget τ i with
 | .own ts=>w (sput τ i (.val (.lst ts))) fun t=>TL.noL t=true/\Q t
 | _=>False
def tFz(i:Nat)(w:WT):WT:=fun τ Q=>match sget τ i with
 | .own ts=>w (sput τ i (.val (.lst ts))) Q
 | _=>False
def vat1(v:V):Slot->Slot
 | .val t=>.vat t v
 | .vat t u=>.vat t u
 | _=>.no
def vatT(i:Nat)(ts:List T)(a:Nat->V):Nat->List Slot->List Slot
 | _,[]=>[]
 | n,s::r=>(if n=i then .vat (.lst ts) (a n) else vat1 (a n) s)::vatT i ts a (n + 1) r
def backT(Z:List Nat):Nat->List Slot->List Slot
 | _,[]=>[]
 | n,s::r=>(if n∈Z then .no else s)::backT Z (n + 1) r
def lone1:Slot->Bool
 | .no=>true
 | .val _=>true
 | .vat _ _=>true
 | _=>false
def lone(i:Nat):Nat->List Slot->Bool
 | _,[]=>true
 | n,s::r=>(decide (n=i)||lone1 s)&&lone i (n + 1) r
def sFzS(i:Nat)(Z:List Nat)(w:WS):WS:=fun D τ=>match sget τ i with
 | .own ts=>lone i 0 τ=true/\i∉Z/\∀a:Nat->V,w {nx:=fun τ'=>(τ'.length=τ.length/\∀j,j < τ.length->j∉Z->sget τ' j=sget (vatT i ts a 0 τ) j)/\D.nx (backT Z 0 τ),rt:=D.rt,bk:=fun _=>False,ct:=fun _=>False} (vatT i ts a 0 τ)
 | _=>False
end
section
variable {X:Cx} {a b c e:Expr} {es:List Expr} {wa wb wc w:WE} {ws:WA} {pos:Pos}
def rMulLT(x y:T)(Q:T->Prop):Prop:=match x,y with
 | .lst ts,.int n=>∃k:Nat,n=k/\k<=1000/\ts.length * k<=1000/\Q (.lst (List.replicate k ts).flatten)
 | _,_=>False
def lstQ(Q:List T->Prop):T->Prop:=fun t=>match t with | .lst us=>Q us|_=>False
end
abbrev soX(S:SpX):SpO:=fun ts Q=>S RF ts (lstQ Q)
section
variable {X:Cx} {a b c e:Expr} {es:List Expr} {wa wb wc w:WE} {ws:WA} {pos:Pos}
def rCountTs(ts us:List T)(Q:T->Prop):Prop:=match us with
 | [.int k]=>(match intsOf ts with|some ns=>Q (.int (ns.count k:Nat))|none=>False)
 | _=>False
def wCount(wa:WE)(ws:WA):WE:=fun τ Q=>wa τ fun x=>match x with
 | .lst ts=>ws τ fun us=>rCountTs ts us Q
 | _=>False
def cInTT(x y:T)(Q:Bool->Prop):Prop:=match x,y with
 | .str z,.tup ts=>(match strsOf ts with|some zs=>Q (zs.contains z)|none=>False)
 | _,_=>False
end
end TL
end
section
namespace TL
open PySem PySem.Spec PyProof.Rows L2
section
variable {M:Model} {A:Around} {E:Value->Shared->Prop} {s:Shared}
theorem flagD{base:Heap}{l:List Env}{e:Addr}{cls a0 fl:Value}{d fr:Option Addr}{Q:Unit->Shared->Prop}(hkb:base.StaysIn s.heap)(hen:base.get? e=none)(hl:s.heap.FunFrames base l)(tr:s.heap.TracedAtW base e cls a0 fl)(da:DAt s.heap e d)
  (hQ:∀h',base.StaysIn h'->h'.FunFrames base l->h'.TracedAtW base e cls a0 (fr.elim Value.none fun f=>rawInt f)->s.heap.UpToSlots h'->DAt h' e d->Q () {s with heap:=h' }):wpAny M A (setFlight (.ref e) fr) Q E s:=by
 obtain⟨oe,vs,t,oT,ts,he,hcls,hd,h1,hnT,hTe,hT,hdT,h3⟩:=tr
 obtain⟨o,q,rfl⟩:=da
 rw[he]at q
 cases q
 obtain⟨nf,hnf⟩:∃v:Value,v=fr.elim Value.none fun f=>rawInt f:=⟨_,rfl⟩
 rw[← hnf]at hQ
 have big:3 < ts.size:=(Array.getElem?_eq_some_iff.mp h3).1
 have oth:∀b,b≠t->(s.heap.update t (Obj.mapFields (·.setIfInBounds 3 nf))).get? b=s.heap.get? b:=fun b n=>Heap.get?_update_other _ _ (Ne.symm n)
 have nr:∀b o,s.heap.get? b=some o->(∀us,o.data ≠ .fields us)->b≠t:=by
  intro b o q n z
  subst z
  rw[hT]at q
  cases q
  exact n ts hdT
 unfold setFlight
 refine wpAny_bind (wpAny_field he hd h1 ?_)
 rw[if_pos (by simp),← hnf]
 have e2:=(oth e (Ne.symm hTe)).trans he
 refine wpAny_setField hT hdT big (hQ _ (fun b o q=>(oth b (fun z=>by rw[z,hnT]at q;cases q)).trans (hkb b o q)) (hl.of_keeps fun b o q n=>⟨o,(oth b (nr b o q n)).trans q,rfl⟩) ?_ (fun b o q n=>⟨o.slots,(oth b (nr b o q n)).trans q⟩) ⟨oe,e2,rfl⟩)
 exact⟨oe,vs,t,_,_,e2,hcls,hd,h1,hnT,hTe,Heap.get?_update_self _ hT (Obj.isFreed_of_fields (Obj.data_mapFields hdT _)),Obj.data_mapFields hdT _,by simp[big]⟩
theorem passD{what:String}{base:Heap}{l:List Env}{e:Addr}{cls a0 fl:Value}{d:Option Addr}{cenv:Env}{Q:Value->Shared->Prop}(hkb:base.StaysIn s.heap)(hen:base.get? e=none)(hl:s.heap.FunFrames base l)(tr:s.heap.TracedAtW base e cls a0 fl)(da:DAt s.heap e d)
  (hE:∀h' fl',base.StaysIn h'->h'.FunFrames base l->h'.TracedAtW base e cls a0 fl'->s.heap.UpToSlots h'->DAt h' e d->E (.ref e) {s with heap:=h' }):wpAny M A (PySem.passOn what (.ref e) cenv:Sem Value) Q E s:=by
 obtain⟨oe,vs,t,oT,ts,he,hcls,hd,h1,hnT,hTe,hT,hdT,h3⟩:=id tr
 unfold PySem.passOn
 refine wpAny_bind (wpAny_field he hd h1 ?_)
 rw[if_neg (by simp)]
 refine wpAny_bind (flagD hkb hen hl tr da fun h' k1 k2 k3 k4 k5=>?_)
 exact wpAny_throw (hE h' _ k1 k2 k3 k4 k5)
theorem leavesD{base:Heap}{env:Env}{outer:List Env}{L e:Addr}{cls a0 fl:Value}{d:Option Addr}{Q:Unit->Shared->Prop}
  (hfr:A.frames=some (env::outer)) (hf:env.frame=some L) (hkb:base.StaysIn s.heap) (hen:base.get? e=none) (hl:s.heap.FunFrames base (env::outer)) (tr:s.heap.TracedAtW base e cls a0 fl) (da:DAt s.heap e d)
  (hQ:∀h',Heap.FlyingW base outer e cls a0 h'->s.heap.UpToSlots h'->DAt h' e d->Q () {s with heap:=h' }):wpAny M A (leaving env (.ref e)) Q E s:=by
 by_cases z:fl=rawInt L
 ·subst z
  unfold leaving
  refine wpAny_bind (wpAny_noteFrame_againW hf tr ?_)
  exact landD hkb hen hl tr da fun h' k1 k2 k3=>hQ h' ⟨k1.1,k1.2.1,k1.2.2.1.2.2,k1.2.2.2⟩ k2 k3
 ·obtain⟨oe,vs,tr,ot,ts,he,⟨rfl,hv⟩,hd,hn,hnt,hte,ht,hdt,h3⟩:=tr
  obtain⟨o,q,rfl⟩:=da
  rw[he]at q
  cases q
  unfold leaving noteFrame
  rw[hf]
  refine wpAny_bind (wpAny_bind (wpAny_field he hd hn ?_))
  rw[if_pos (by simp)]
  refine wpAny_bind (wpAny_field ht hdt h3 ?_)
  rw[if_neg (by simpa using z)]
  refine wpAny_bind (wpAny_setField ht hdt (Array.getElem?_eq_some_iff.mp h3).1 ?_)
  have oth:∀b,b≠tr->(s.heap.update tr (Obj.mapFields (·.setIfInBounds 3 .none))).get? b=s.heap.get? b:=fun b n=>Heap.get?_update_other _ _ (Ne.symm n)
  have nr:∀b o,s.heap.get? b=some o->(∀us,o.data ≠ .fields us)->b≠tr:=by
   intro b o q n z
   subst z
   rw[ht]at q
   cases q
   exact n ts hdt
  refine entryD hfr (hl.of_keeps fun b o q n=>⟨o,(oth b (nr b o q n)).trans q,rfl⟩) hf ((oth e (Ne.symm hte)).trans he) (fun b o q=>(oth b (fun z=>by rw[z,hnt]at q;cases q)).trans (hkb b o q)) hen hd (Array.getElem?_eq_some_iff.mp hn).1 hv fun h' x y=>?_
  obtain⟨k1,⟨_,_,k2⟩,k3,k4⟩:=x
  exact hQ h' ⟨k1,hen,k2,k3⟩ (fun b o q n=>k4 b o ((oth b (nr b o q n)).trans q) n) y
theorem noteFrame_like{c d:Env}(h:c.frame=d.frame)(e:Value):noteFrame e c=noteFrame e d:=by
 unfold noteFrame PySem.frameOf
 rw[h]
def without(B:Heap)(c:Addr):Heap:=B.update c fun o=>{o with data:=.freed}
theorem without_ne{B:Heap}{c b:Addr}(h:b≠c):(without B c).get? b=B.get? b:=Heap.get?_update_other _ _ (Ne.symm h)
theorem without_eq{B:Heap}{c:Addr}:(without B c).get? c=none:=by
 obtain⟨objs,l⟩:=B
 unfold without Heap.update Heap.get?
 simp only[Array.getElem?_modify]
 cases objs[c]? with
 | none=>rfl
 | some o=>rfl
theorem without_some{B:Heap}{c b:Addr}{o:Obj}(h:(without B c).get? b=some o):b≠c/\B.get? b=some o:=by
 by_cases z:b=c
 ·rw[z,without_eq]at h;cases h
 ·exact⟨z,by rw[without_ne z]at h;exact h⟩
theorem without_none{B:Heap}{c b:Addr}(h:B.get? b=none):(without B c).get? b=none:=by
 by_cases z:b=c
 ·rw[z];exact without_eq
 ·rw[without_ne z];exact h
theorem frames_but{B h h':Heap}{c:Addr}(hs:Heap.SameBut c h h'):∀{l:List Env},c∉l.filterMap (·.frame)->h.FunFrames B l->h'.FunFrames (without B c) l
 | [],_,_=>trivial
 | env::rest,hc,⟨k1,⟨L,o,k2,k3,k4,k5⟩,k6⟩=>by
  rw[List.filterMap_cons,k2]at hc
  have n1:L≠c:=fun z=>hc (by rw[z];exact List.mem_cons_self)
  exact⟨k1,⟨L,o,k2,without_none k3,(hs.2 L n1).trans k4,k5⟩,frames_but hs (fun z=>hc (List.mem_cons_of_mem _ z)) k6⟩
end
section
variable {X:Cx} {pins:List (Addr×Obj)} {σ:St} {H H':Hp} {s s':Shared} {e:Addr} {dx:Option Addr}
theorem leave_comp{M:Model}{C:Value}{Q:Value->Unit->Shared->Prop}{E:Value->Value->Shared->Prop}{Cc:Addr}{mC:Str->Option Value}{cenv:Env}{use:Option (Value->Sem Unit)}{QQ:Value->Shared->Prop}{ac:Value}(D:DefCx X)(I:Inv X pins σ H s)(F:Fly X.prog X.w X.stack H s H' e C s')(da:DAt s'.heap e dx)
  (cn:X.s₀.heap.get? Cc=none) (cH:H' Cc=none) (cF:Cc∉frs X.stack) (cNs:s'.heap.Ns Cc mC) (cf:cenv.frame=X.env.frame)
  (hQ:∀h2,Fly X.prog X.w X.outer X.H₀ X.s₀ H' e C {s' with heap:=h2}->DAt h2 e dx->Q (.ref e) () {s' with heap:=h2}) :
  notedBy M X.A cenv (fun x s2=>compPost M X.A (fun e' s3=>wpAny M X.A (leaving X.env e') (Q e') (E e') s3) use QQ ac Cc (.error x) s2) (.ref e) s':=by
 obtain⟨B,a0,fl,tB,oB⟩:=F.fly
 have hfr:X.A.frames=some (X.env::X.outer):=by rw[I.ok.frames,D.stk]
 have fl':Heap.FlyingW B (X.env::X.outer) e C a0 s'.heap:=by rw[← D.stk];exact fl
 have fs:=frs_cons D
 unfold notedBy
 rw[noteFrame_like cf]
 refine noteD hfr D.frame fl' da fun h4 held sm4 da4=>?_
 obtain⟨oC,es,ep,hoC,hdC,hrC⟩:=id cNs
 have nsC:=sm4.ns cNs
 obtain⟨oC4,es4,ep4,hoC4,hdC4,hrC4⟩:=id nsC
 refine⟨mC,nsC,fun h5 sb cenv' _=>?_⟩
 obtain⟨a1,a2,a3,oe,vs,t,oT,ts,he,hcls,hd,h1,hnT,hTe,hT,hdT,h3⟩:=held
 have neE:e≠Cc:=fun z=>by rw[z]at he;rw[hoC4]at he;cases he;rw[hdC4]at hd;cases hd
 have neT:t≠Cc:=fun z=>by rw[z]at hT;rw[hoC4]at hT;cases hT;rw[hdC4]at hdT;cases hdT
 have cF':Cc∉(X.env::X.outer).filterMap (·.frame):=by
  have:=cF
  unfold frs at this
  rw[D.stk]at this
  exact this
 have b1:(without B Cc).StaysIn h5:=fun b o q=>by
  obtain⟨n,q'⟩:=without_some q
  exact(sb.2 b n).trans (a1 b o q')
 have b2:(without B Cc).get? e=none:=without_none a2
 have b3:=frames_but sb cF' a3
 have b4:h5.TracedAtW (without B Cc) e C a0 (rawInt X.env.locals):=⟨oe,vs,t,oT,ts,(sb.2 e neE).trans he,hcls,hd,h1,without_none hnT,hTe,(sb.2 t neT).trans hT,hdT,h3⟩
 have b5:DAt h5 e dx:=by
  obtain⟨o,q1,q2⟩:=da4
  exact⟨o,(sb.2 e neE).trans q1,q2⟩
 refine passD (s:={s' with heap:=h5}) b1 b2 b3 b4 b5 fun h6 fl6 c1 c2 c3 c4 c5=>?_
 refine leavesD (s:={s' with heap:=h6}) hfr D.frame c1 b2 c2 c3 c5 fun h2 fl2 up2 hD=>hQ h2 ?_ hD
 have up:∀b o,b≠Cc->s'.heap.get? b=some o->(∀vs,o.data ≠ .fields vs)->∃sl,h2.get? b=some {o with slots:=sl}:=fun b o n q nf=>by
  obtain⟨sl4,q4⟩:=sm4 b o q nf
  obtain⟨sl6,q6⟩:=c4 b _ ((sb.2 b n).trans q4) nf
  obtain⟨sl2,q2⟩:=up2 b _ q6 nf
  exact⟨sl2,q2⟩
 have I':Inv X pins σ H' s':=I.call' (ch:=[]) F.os F.un F.hok F.bare fun b z=>absurd z (by simp)
 have nox:∀b:Addr,b∉X.ex:=fun b=>by rw[D.ex];simp
 have old:∀b o,X.s₀.heap.get? b=some o->b≠Cc:=fun b o q z=>by rw[z,cn]at q;cases q
 have oldL:∀b o,X.s₀.heap.get? b=some o->b≠X.env.locals:=fun b o q z=>by
  have l1:=Heap.lt_size q
  have l2:=I.ok.above
  rw[z]at l1
  exact absurd (Nat.lt_of_lt_of_le l1 l2) (Nat.lt_irrefl _)
 have same:∀b u v,B.get? b=some u->s'.heap.get? b=some v->u=v:=fun b u v h1 h2=>by
  have:=fl.1 b u h1
  rw[h2]at this
  exact(Option.some.inj this).symm
 have inB:∀b u,X.s₀.heap.get? b=some u->b∉frs X.outer->∃o2,s'.heap.get? b=some o2/\(without B Cc).get? b=some o2:=fun b u q hf=>by
  obtain⟨o1,e1⟩:=I.base.there b u q (nox b)
  obtain⟨o2,e2⟩:=F.un.there b o1 e1 (by simp)
  exact⟨o2,e2,by rw[without_ne (old b u q)];exact oB b o1 o2 e1 e2 (by rw[fs];intro z;rcases List.mem_cons.mp z with z|z;exact oldL b u q z;exact hf z)⟩
 have nofld:∀b∈frs X.outer,b≠Cc/\∃ob,s'.heap.get? b=some ob/\∀vs,ob.data ≠ .fields vs:=fun b hb=>by
  have hb':b∈frs X.stack:=by rw[fs];exact List.mem_cons_of_mem _ hb
  refine⟨fun z=>cF (by rw[← z];exact hb'),?_⟩
  have hb2:b∈X.stack.filterMap (·.frame):=hb'
  obtain⟨_,ob,eb,nf⟩:=(I'.stack).mem hb2
  exact⟨ob,eb,nf⟩
 refine⟨I'.os,I'.bare,⟨fun b o q n hf _=>?_,fun b o q n hf _=>?_,fun b o q n _=>I'.base.free b o q n (nox b),fun b o q _=>?_,I'.base.tups,I'.base.frzs,I'.base.tbls⟩,hok_objs F.hok fun b o u hb q=>?_,?_,F.non,without B Cc,a0,fl2,fun b o hb=>?_,fun b u o q q2 hf=>?_⟩
 ·obtain⟨o2,e2,eB⟩:=inB b o q hf
  have:=I'.base.keep b o q n hf (nox b)
  rw[e2]at this
  cases this
  exact fl2.1 b _ eB
 ·obtain⟨sl,e1⟩:=I'.base.slot b o q n hf (nox b)
  obtain⟨nb,ob,eb,nf⟩:=nofld b hf
  rw[e1]at eb
  cases eb
  obtain⟨sl2,e2⟩:=up b _ nb e1 nf
  exact⟨sl2,e2⟩
 ·obtain⟨o1,e1⟩:=I'.base.there b o q (nox b)
  by_cases hf:b∈frs X.outer
  ·obtain⟨nb,ob,eb,nf⟩:=nofld b hf
   rw[e1]at eb
   cases eb
   obtain⟨sl2,e2⟩:=up b _ nb e1 nf
   exact⟨_,e2⟩
  ·obtain⟨o2,_,eB⟩:=inB b o q hf
   exact⟨o2,fl2.1 b o2 eB⟩
 ·obtain⟨v,hv⟩:=tB b o hb
  have:=same b v u hv q
  subst this
  exact fl2.1 b v (by rw[without_ne (fun z=>by rw[z,cH]at hb;cases hb)];exact hv)
 ·cases q:X.s₀.heap.get? e with
  | none=>rfl
  | some o =>
   obtain⟨o1,e1⟩:=I.base.there e o q (nox e)
   rw[F.new]at e1
   cases e1
 ·obtain⟨v,hv⟩:=tB b o hb
  exact⟨v,by rw[without_ne (fun z=>by rw[z,cH]at hb;cases hb)];exact hv⟩
 ·obtain⟨o2,e2,eB⟩:=inB b u q hf
  have z2:=fl2.1 b o2 eB
  have q2':h2.get? b=some o:=q2
  rw[z2]at q2'
  cases q2'
  exact eB
end
section
variable {prog:Program} {w:World} {A:Around} {E:Value->Shared->Prop} {R:Result->Shared->Prop} {s:Shared}
theorem loopE{elt target iter:Expr}{ifs:List Expr}{scope:Scope}{pos:Pos}{it acc:Value}{env:Env}(I:Nat->Shared->Prop)
  (turn:∀n s,I n s->wpAny (model prog w) A (pyNext it) (fun r s₁=>match r with
   | none=>R (.ok .next) s₁
   | some v=>wpAny (model prog w) A (letOwnedTupleGo target it v) (fun _ s₁'=>wpAny (model prog w) A (assign target env v) (fun _ s₂ =>
     wpAny (model prog w) A (forIn ifs true fun c r=>if r=true then do let ok ← isTrue c env (eval c env);pure (ForInStep.yield ok) else pure (ForInStep.yield r)) (fun ok s₃ =>
      if ok=true then wpAny (model prog w) A (eval elt env) (fun x s₄ =>
       wpAny (model prog w) A (call (.builtin "list.append") [acc,x]) (fun _ s₅=>∃m,m < n/\I m s₅) (fun _ _=>False) s₄) (notedBy (model prog w) A env fun x s'=>R (.error x) s') s₃
      else ∃m,m < n/\I m s₃) (fun _ _=>False) s₂) (fun _ _=>False) s₁') (fun _ _=>False) s₁) (fun _ _=>False) s)
  (n:Nat) (h:I n s) :
  codeAny (model prog w) A (.compLoop (.ListComp elt [⟨target,iter,ifs,0⟩] scope pos) 0 it acc env) R s:=by
 refine codeAny_loop rfl I (fun n s hI=>?_) n h
 show wpAny _ A ((compTurn (.ListComp elt [⟨target,iter,ifs,0⟩] scope pos) 0 it acc env).onRaise (fun x=>do noteFrame x env;theTreesLotGoes x)) _ _ s
 refine wpAny_noted ?_
 rw[compTurn_list]
 refine wpAny_bind (wpAny_standAt (wpAny_bind (wpAny_mono (turn n s hI) (fun r s₁ h₁=>?_) fun _ _ h'=>h'.elim)))
 cases r with
 | none=>exact wpAny_pure h₁
 | some v =>
  refine wpAny_bind (wpAny_mono h₁ (fun _ s₁' h₁'=>?_) fun _ _ h'=>h'.elim)
  refine wpAny_bind (wpAny_mono h₁' (fun _ s₂ h₂=>wpAny_bind (wpAny_mono h₂ (fun ok s₃ h₃=>?_) fun _ _ h'=>h'.elim)) fun _ _ h'=>h'.elim)
  cases ok with
  | false=>exact wpAny_pure ⟨rfl,h₃⟩
  | true =>
   exact wpAny_bind (wpAny_bind (wpAny_mono h₃ (fun x s₄ h₄=>wpAny_bind (wpAny_mono h₄ (fun _ s₅ h₅=>wpAny_pure (wpAny_pure ⟨rfl,h₅⟩)) fun _ _ h'=>h'.elim)) fun _ _ h'=>h'))
end
structure TakesC(X:Cx)(R:T->Prop):Prop where
 ex:X.ex=[]
 cm:∀(pins:List (Addr×Obj))(σ:St)(H H':Hp)(s s':Shared)(a C:Addr)(dx:Option Addr)(Cc:Addr)(mC:Str->Option Value)(cenv:Env)(use:Option (Value->Sem Unit))(QQ:Value->Shared->Prop)(ac:Value),Inv X pins σ H s->Same X.H₀ H->Fly X.prog X.w X.stack H s H' a (.ref C) s'->DAt s'.heap a dx->Same H H'->wishF X.K R C dx H' →
  X.s₀.heap.get? Cc=none->H' Cc=none->Cc∉frs X.stack->s'.heap.Ns Cc mC->cenv.frame=X.env.frame->notedBy (model X.prog X.w) X.A cenv (fun x s2=>compPost (model X.prog X.w) X.A X.xe use QQ ac Cc (.error x) s2) (.ref a) s'
structure TakesOn(X:Cx)(R:T->Prop):Prop where
 on:∀(pins:List (Addr×Obj))(σ:St)(H H':Hp)(s s':Shared)(a C:Addr)(dx:Option Addr),Inv X pins σ H s->Same X.H₀ H->Fly X.prog X.w X.stack H s H' a (.ref C) s'->DAt s'.heap a dx->Same H H'->wishF X.K R C dx H'->X.xe (.ref a) s'
theorem takesC_def{P:Program}{w:World}{K:PySem.W.Frag}{mg:Str->Option Value}{base:Heap}{N:List Str}{qual:Str}{scope:Scope}{f:Addr}{cdv:Value}{A:Around}{outer:List Env}{s:Shared}{H:Hp}{E:XK}{R:T->Prop}
  (hE:∀v dx H',Same H H'->wishOf K R v dx H'->E v dx H'):TakesC (cxOf (CXE P w) P w K mg base N qual scope f cdv A outer s H E) R:=by
 have D:DefCx (cxOf (CXE P w) P w K mg base N qual scope f cdv A outer s H E):=⟨rfl,rfl,rfl⟩
 refine⟨rfl,fun pins σ H1 H' s1 s' a C dx Cc mC cenv use QQ ac I S0 fl da S1 h1 c1 c2 c3 c4 c5=>?_⟩
 exact leave_comp (Q:=fun e' _ s''=>CXE P w outer H s E e' s'') (E:=fun e' e'' s''=>CXE P w outer H s E e'' s'') D I fl da c1 c2 c3 c4 c5 fun h2' F2 d2=>⟨a,C,dx,H',rfl,F2,d2,S0.trans S1,hE _ _ _ (S0.trans S1) ⟨C,rfl,h1⟩⟩
section
variable {X:Cx} {a b c e:Expr} {es:List Expr} {wa wb wc w:WE} {ws:WA} {pos:Pos} {st:Stmt}
theorem jcallY{k:Nat}{ps:List Str}{S:SpX}{R:T->Prop}{x:Str}{p:Pos}(C:CalX X.prog X.w X.K X.mg X.base k x ps S)(tk:TakesOn X R)(hr:Room k X.A)(hg:Gl X x)
  (ha:JA X (e::es) ws) (hdb:(x==("__debug__" : Str))=false:=by decide) (he:starEach (e::es) X.env=(false,eval e X.env)::starEach es X.env:=by exact star1 rfl)
  (hpl:(backTo pos (starEach es X.env)).any (·.1)=false:=by exact stars rfl):JE X (.Call (.Name x p) (e::es) [] pos) (wCall (S R) ws):=by
 obtain⟨f,fd,F,hb,hk,hm⟩:=C
 intro pins s σ H Q I ⟨τ,Q0,R0,hw,k⟩
 refine wpAny_Call_Name_kw (ld_glob I hg hm ?_ hdb)
 refine PySem.W.callWith_K (h₀:=X.base) I.ok.mod.kin hk (thn (ha pos pins s σ H (fun vs H1=>∃ts,Same H H1/\Reps X.K H1 ts vs/\S R ts Q0) I ⟨τ,_,R0,hw,fun ts vs H1 S1 r q=>⟨ts,S1,r,q⟩⟩) fun us s1 ⟨vs,H1,I1,r,ts,S1,rr,q⟩=>⟨I1.kIn,?_⟩) he hpl
 exact run_at F hr hb (fun a C dx H' s' fl da S2 h1=>tk.on pins σ H1 H' s1 s' a C dx I1 (R0.same.trans S1) fl da S2 h1) I1 r rr q fun t v H' S2 r2 q2=>k t v H' (S1.trans S2) r2 q2
theorem comp_mid{X X':Cx}{pins pins':List (Addr×Obj)}{σ σ5:St}{H2 H5:Hp}{s2 s6:Shared}{fp:List Addr}{Da:Addr}{h3:Heap}(eP:X'.prog=X.prog)(eW:X'.w=X.w)(eFs:X'.fs=frs X.stack)(eEx:X'.ex=Da::fp)(eH:X'.H₀=H2)
  (eS:X'.s₀.heap=h3) (eOs:X'.s₀.os=s2.os) (hCn:X'.env.locals=Da + 1) (pushK:∀b o,s2.heap.get? b=some o->h3.get? b=some o) (hDa:s2.heap.objs.size=Da) (I2:Inv X pins σ H2 s2) (f2:∀b∈fp,FpOk X pins H2 b) (I6:Inv X' pins' σ5 H5 s6):Inv X pins σ H5 s6:=by
 have un:=I6.base
 rw[eFs,eEx,eH,eS]at un
 have old:∀b o,s2.heap.get? b=some o->b≠Da:=fun b o e=>by
  have lt:=Heap.lt_size e
  rw[hDa]at lt
  exact Nat.ne_of_lt lt
 have ex:∀b o,s2.heap.get? b=some o->b∉fp->b∉Da::fp:=fun b o e hb z=>by
  rcases List.mem_cons.mp z with z|z
  ·exact old b o e z
  ·exact hb z
 refine I2.call' (s':=s6) (ch:=fp) (by rw[I6.os,eOs]) ⟨fun b o e n hf hx=>?_,fun b o e n hf hx=>?_,fun b o e n hx=>?_,fun b o e hx=>?_,fun b xs e=>?_,fun b o u e=>?_,fun b ps e=>?_⟩ (fun b ob eb=>?_) I6.bare fun b hb=>?_
 ·exact un.keep b o (pushK b o e) n hf (ex b o e hx)
 ·exact un.slot b o (pushK b o e) n hf (ex b o e hx)
 ·exact un.free b o (pushK b o e) n (ex b o e hx)
 ·exact un.there b o (pushK b o e) (ex b o e hx)
 ·exact un.tups b xs e
 ·exact un.frzs b o u e
 ·exact un.tbls b ps e
 ·have o5:=I6.hok b ob eb
  rw[eP,eW]at o5
  exact o5
 ·obtain⟨g1,g2,g3,g4,g5,g6⟩:=f2 b hb
  exact⟨g4,g2,g5,g6⟩
theorem comp_loopX{X X':Cx}{elt target iter:Expr}{ifs:List Expr}{scope:Scope}{pos:Pos}{g:TGt}{ut:WT}{we:WE}{use:Option (Value->Sem Unit)}{QQ:Value->Shared->Prop}{pins:List (Addr×Obj)}{σ σ4:St}{H H2:Hp}{s2 s4:Shared}{h3:Heap}{it Da:Addr}{fp:List Addr}{tn':Nat->Heap->Prop}{J:It}{ts:List T}{Q0:T->Prop}{τ4:List Slot}
  (hg':JG X' target g) (hu':JTs X' ifs ut) (he':JE (X'.wish (notedBy (model X.prog X.w) X.A X'.env fun x s2=>compPost (model X.prog X.w) X.A X.xe use QQ (.ref Da) X'.env.locals (.error x) s2)) elt we) (eP:X'.prog=X.prog) (eW:X'.w=X.w) (eK:X'.K=X.K) (eA:X'.A=X.A) (eH:X'.H₀=H2) (eE:X'.xe=fun _ _=>False) (eC:X'.calm=true) (eFs:X'.fs=frs X.stack) (eEx:X'.ex=Da::fp) (eS:X'.s₀.heap=h3) (eOs:X'.s₀.os=s2.os) (ePn:X'.pn=[])
  (hCn:X'.env.locals=Da + 1) (pushK:∀b o,s2.heap.get? b=some o->h3.get? b=some o) (hDa:s2.heap.objs.size=Da) (I2:Inv X pins σ H2 s2) (f2:∀b∈fp,FpOk X pins H2 b) (Tn:Turn X.prog X.w X.K target J fp it tn') (ne:Da∉fp) (S2:Same H H2) (wk:WkS X.K J ts H2) (hlen:ts.length<=1000)
  (J4:Inv X' [] σ4 H2 s4) (R4:RepSt X'.K X'.H₀ H2 σ4 τ4) (st4:tn' 0 s4.heap) (fr4:∀b∈Da::fp,H2 b=none) (hDat:s4.heap.get? Da=some {cls:=.type "list", dict:=none,data:=.seq ([]:List Value).toArray}) (q:compT g ut we ts [] τ4 fun rs=>Q0 (.lst rs))
  (hfp:∀H6:Hp,H6 X'.env.locals=none->FpOk X pins H6 X'.env.locals)
  (hend:∀(s6:Shared)(H6:Hp)(D C:Addr)(m6:Str->Option Value)(t:T)(f:Flow),Inv X pins σ H6 s6->FpOk X pins H6 C->s6.heap.Ns C m6->Same H H6->Rep X.K H6 t (.ref D)->Q0 t->(∃(H5:Hp) (o:Obj) (vs:List V) (ts:List T),H6=upd H5 D (.frz o (.lst vs))/\H5 D=none/\Same H H5/\t=.lst ts/\Reps X.K H5 ts vs)->compPost (model X.prog X.w) X.A X.xe use QQ (.ref D) C (.ok f) s6) :
  codeAny (model X.prog X.w) X.A (.compLoop (.ListComp elt [⟨target,iter,ifs,0⟩] scope pos) 0 (.ref it) (.ref Da) X'.env) (compPost (model X.prog X.w) X.A X.xe use QQ (.ref Da) X'.env.locals) s4:=by
 have stat:∀{H':Hp}{b:Addr},b∈Da::fp->H' b=none->FpOk X' [] H' b:=fun {H' b} hb hn=>by
  have o:=(J4.ok.exf b (by rw[eEx];exact hb))
  refine⟨hn,o.1,J4.ok.exfs b (by rw[eEx];exact hb),.inl (by rw[eEx];exact hb),o.2,fun p hp=>?_⟩
  rw[ePn]at hp
  exact absurd (show p∈([]:List (Addr×Obj)) from hp) (by simp)
 refine loopE (CompInv X.K X' ts g ut we Q0 tn' Da fp) ?_ ts.length
  ⟨0,_,H2,_,[],[],[],0,by simp,Nat.zero_le _,J4,st4,fr4,R4,hDat,.nil,reps_nil.mpr rfl,Nat.le_refl _,by simpa using q⟩
 rintro n s5 ⟨i,σ5,H5,τ5,acc,vs,its,k5,rfl,hi5,I5,st5,fr5,R5,hD5,rv5,ra5,hl5,q5⟩
 have K5:Same H2 H5:=by
  have:=R5.same
  rwa [eH]at this
 obtain⟨wi5,ws5⟩:=wk H5 K5
 have fp5:∀b∈fp,FpOk X' [] H5 b:=fun b hb=>stat (List.mem_cons_of_mem _ hb) (fr5 b (List.mem_cons_of_mem _ hb))
 rw[← eA]
 by_cases hlt:i < ts.length
 ·have ei:ts[i]?=some ts[i]:=List.getElem?_eq_getElem hlt
  obtain⟨go,yl⟩:=wi5 i _ ei
  rw[List.drop_eq_getElem_cons hlt]at q5
  have ID:Inv X' ([]++pinsAt [Da] s5.heap) σ5 H5 s5:=I5.pinned (fp:=[Da]) (fun b hb=>stat (by rw[List.mem_singleton.mp hb];exact List.mem_cons_self) (fr5 b (by rw[List.mem_singleton.mp hb];exact List.mem_cons_self))) fun b hb=>by
   rw[List.mem_singleton.mp hb]
   exact⟨_,hD5,fun v z=>(by cases z)⟩
  have fpp:∀{H':Hp},(∀b∈fp,H' b=none)->∀b∈fp,FpOk X' ([]++pinsAt [Da] s5.heap) H' b:=fun hn b hb=>by
   obtain⟨g1,g2,g3,g4,g5,g6⟩:=stat (H':=_) (List.mem_cons_of_mem _ hb) (hn b hb)
   refine⟨g1,g2,g3,g4,g5,fun p hp=>?_⟩
   rcases List.mem_append.mp hp with z|z
   ·rw[ePn]at z;exact absurd (show p∈([]:List (Addr×Obj)) from z) (by simp)
   ·rw[List.nil_append]at z
    obtain⟨z1,_⟩:=of_pinsAt z
    rw[List.mem_singleton.mp z1]
    intro e
    exact ne (by rw[e];exact hb)
  have frf:∀b∈fp,H5 b=none:=fun b hb=>fr5 b (List.mem_cons_of_mem _ hb)
  refine wpAny_mono (Tn.item X' eP eW eK eC i _ s5 σ5 H5 (fun _ _=>False) ID (fpp frf) st5 go) (fun r s6 h6=>?_) fun _ _ z=>z
  obtain⟨u,rfl,h6⟩:=h6
  refine wpAny_mono h6 (fun _ s7 h7=>?_) fun _ _ z=>z
  obtain⟨x,H7,I7,rx,y7,st7,fr7⟩:=h7
  obtain⟨S7,r7⟩:=yl x H7 y7
  have I7p:=I7.pinned (fpp fr7) (Tn.obj _ _ st7)
  have R7:=R5.mono S7
  have g7:=hg' _ s7 σ5 H7 x u (fun σ8 H8=>∃τ8,Same H7 H8/\RepSt X'.K X'.H₀ H8 σ8 τ8/\ut τ8 fun k=>(k=true->we τ8 fun t=>compT g ut we (ts.drop (i + 1)) (acc++[t]) τ8 fun rs=>Q0 (.lst rs))/\(k=false->compT g ut we (ts.drop (i + 1)) acc τ8 fun rs=>Q0 (.lst rs))) I7p rx
   ⟨ts[i],τ5,_,R7,(by rw[eK];exact r7),q5,fun τ8 σ8 H8 S8 R8 q8=>⟨τ8,S8,R8,q8⟩⟩
  rw[eE,eP,eW]at g7
  refine wpAny_mono g7 (fun _ s8 h8=>?_) fun _ _ z=>z
  obtain⟨σ8,H8,I8,τ8,S8,R8,q8⟩:=h8
  have u8:=hu' _ s8 σ8 H8 (fun k H9=>Same H8 H9/\((k=true->we τ8 fun t=>compT g ut we (ts.drop (i + 1)) (acc++[t]) τ8 fun rs=>Q0 (.lst rs))/\(k=false->compT g ut we (ts.drop (i + 1)) acc τ8 fun rs=>Q0 (.lst rs)))) I8 ⟨τ8,_,R8,q8,fun k H9 S9 q9=>⟨S9,q9⟩⟩
  rw[eE,eP,eW]at u8
  refine wpAny_mono u8 (fun k s9 h9=>?_) fun _ _ z=>z
  obtain⟨H9,I9,S9,q9⟩:=h9
  have R9:=R8.mono S9
  have pinD:∀{s':Shared}{σ':St}{H':Hp},Inv X' (([]++pinsAt [Da] s5.heap)++pinsAt fp s7.heap) σ' H' s'->s'.heap.get? Da=some {cls:=.type "list", dict:=none,data:=.seq its.toArray k5}/\H' Da=none:=fun I'=>by
   have z:=I'.pin (Da,_) (List.mem_append_right _ (List.mem_append_left _ (by rw[List.nil_append];exact mem_pinsAt (List.mem_singleton.mpr rfl) hD5)))
   exact⟨z.1,z.2.1⟩
  have pinF:∀{s':Shared}{σ':St}{H':Hp},Inv X' (([]++pinsAt [Da] s5.heap)++pinsAt fp s7.heap) σ' H' s'->tn' (i + 1) s'.heap/\∀b∈fp,H' b=none:=fun {s' σ' H'} I'=>by
   refine⟨Tn.keep _ _ _ st7 fun b hb o e=>(I'.pin (b,o) (List.mem_append_right _ (List.mem_append_right _ (mem_pinsAt hb e)))).1,fun b hb=>?_⟩
   obtain⟨o,e,d⟩:=Tn.obj _ _ st7 b hb
   exact(I'.pin (b,o) (List.mem_append_right _ (List.mem_append_right _ (mem_pinsAt hb e)))).2.1
  have frD:∀{H':Hp},H' Da=none->(∀b∈fp,H' b=none)->∀b∈Da::fp,H' b=none:=fun h1 h2 b hb=>by
   rcases List.mem_cons.mp hb with rfl|hb
   ·exact h1
   ·exact h2 b hb
  have unp:∀{s':Shared}{σ':St}{H':Hp},Inv X' (([]++pinsAt [Da] s5.heap)++pinsAt fp s7.heap) σ' H' s'->Inv X' [] σ' H' s':=fun I'=>I'.pins_of fun p hp=>absurd hp (by simp)
  cases k with
  | false =>
   rw[if_neg Bool.false_ne_true]
   refine⟨ts.length - (i + 1),by omega,i + 1,σ8,H9,τ8,acc,vs,its,k5,rfl,hlt,unp I9,(pinF I9).1,frD (pinD I9).2 (pinF I9).2,R9,(pinD I9).1,rv5,ra5.kp (.of (S7.trans (S8.trans S9))),by omega,q9.2 rfl⟩
  | true =>
   rw[if_pos rfl]
   have e9:=he' _ s9 σ8 H9 (fun v H10=>∃t,Same H9 H10/\Rep X'.K H10 t v/\compT g ut we (ts.drop (i + 1)) (acc++[t]) τ8 fun rs=>Q0 (.lst rs)) (I9.wish _) ⟨τ8,_,R9,q9.1 rfl,fun t v H10 S10 r10 q10=>⟨t,S10,r10,q10⟩⟩
   have e9':wpAny (model X'.prog X'.w) X'.A (eval elt X'.env) (EP (X'.wish _) _ _ _) (notedBy (model X.prog X.w) X.A X'.env fun x s2=>compPost (model X.prog X.w) X.A X.xe use QQ (.ref Da) X'.env.locals (.error x) s2) s9:=e9
   rw[eP,eW]at e9'
   refine wpAny_mono e9' (fun y s10 h10=>?_) fun _ _ z=>(by rw[eA];exact z)
   obtain⟨v,H10,I10,rv,t,S10,r10,q10⟩:=h10
   have I10:=I10.unwish
   have hlen5:its.length<=1000:=by
    have e1:=rv5.length
    have e2:=ra5.length
    omega
   refine wpAny_list_append_plain (hsz:=by rw[List.size_toArray];exact few hlen5) ⟨k5,(pinD I10).1⟩ fun h11 hl11 hs11=>?_
   obtain⟨k11,hl11⟩:=hl11
   have I11:Inv X' [] σ8 H10 {s10 with heap:=h11}:=by
    obtain⟨g1,g2,g3,g4,g5,g6⟩:=stat (H':=H10) List.mem_cons_self (pinD I10).2
    exact(unp I10).turned (t':=s10.toks) (it:=Da) (fun b o hb e=>(hs11.2 b hb).trans e) g1 g2 g4 g5 g6
   have st11:tn' (i + 1) h11:=Tn.keep _ _ _ (pinF I10).1 fun b hb o e=>(hs11.2 b (fun z=>ne (by rw[← z];exact hb))).trans e
   refine⟨ts.length - (i + 1),by omega,i + 1,σ8,H10,τ8,acc++[t],vs++[v],its++[y],k11,rfl,hlt,I11,st11,frD (pinD I10).2 (pinF I10).2,R9.mono S10,?_,rv5.append (.cons rv .nil),(ra5.kp (.of (S7.trans (S8.trans (S9.trans S10))))).append (.one (by rw[← eK];exact r10)),by simp;omega,q10⟩
   have ea:(its++[y]).toArray=its.toArray.push y:=by simp
   rw[ea]
   exact hl11
 ·have e:i=ts.length:=by omega
  subst e
  rw[List.drop_length]at q5
  have q5':Q0 (.lst acc):=q5
  refine wpAny_mono (Tn.done X' eP eW eK eC ts.length ([]++pinsAt [Da] s5.heap) s5 σ5 H5 (fun _ _=>False) ?_ ?_ st5 ws5) (fun r s6 h6=>?_) fun _ _ z=>z
  ·exact I5.pinned (fp:=[Da]) (fun b hb=>stat (by rw[List.mem_singleton.mp hb];exact List.mem_cons_self) (fr5 b (by rw[List.mem_singleton.mp hb];exact List.mem_cons_self))) fun b hb=>by
    rw[List.mem_singleton.mp hb]
    exact⟨_,hD5,fun v z=>(by cases z)⟩
  ·intro b hb
   obtain⟨g1,g2,g3,g4,g5,g6⟩:=stat (H':=H5) (List.mem_cons_of_mem _ hb) (fr5 b (List.mem_cons_of_mem _ hb))
   refine⟨g1,g2,g3,g4,g5,fun p hp=>?_⟩
   rcases List.mem_append.mp hp with z|z
   ·rw[ePn]at z;exact absurd (show p∈([]:List (Addr×Obj)) from z) (by simp)
   ·rw[List.nil_append]at z
    obtain⟨z1,_⟩:=of_pinsAt z
    rw[List.mem_singleton.mp z1]
    intro e
    exact ne (by rw[e];exact hb)
  obtain⟨rfl,I6⟩:=h6
  have z6:=I6.pin (Da,_) (List.mem_append_right _ (by rw[List.nil_append];exact mem_pinsAt (List.mem_singleton.mpr rfl) hD5))
  obtain⟨m6,hn6,_⟩:=I6.loc
  have hz:vs.length<=sizeLine:=by rw[ra5.length];exact few (by omega)
  have fin:=comp_end eP eW eFs eEx eH eS eOs hCn pushK hDa I2 f2 I6 (fr5 _ List.mem_cons_self) z6.1 rv5 hz
  have S5:Same H2 H5:=by have:=R5.same;rwa [eH]at this
  have S6:Same H2 (upd H5 Da (.frz {cls:=.type "list", dict:=none,data:=.seq its.toArray k5} (.lst vs))):=S5.trans (same_new (fr5 _ List.mem_cons_self) _)
  have hfpC:=hfp _ (show (upd H5 Da (.frz {cls:=.type "list", dict:=none,data:=.seq its.toArray k5} (.lst vs))) X'.env.locals=none by rw[upd_ne (by rw[hCn];exact Nat.succ_ne_self _)];exact I6.free)
  show compPost (model X.prog X.w) X'.A X.xe use QQ (.ref Da) X'.env.locals (.ok .next) s6
  rw[eA]
  exact hend s6 _ _ _ m6 (.lst acc) _ fin hfpC hn6 (S2.trans S6) (rep_lst.mpr ⟨_,vs,rfl,.inl ⟨_,upd_same⟩,ra5.kp (.of (same_new (fr5 _ List.mem_cons_self) _))⟩) q5' ⟨H5,_,vs,acc,rfl,fr5 _ List.mem_cons_self,S2.trans S5,rfl,ra5⟩
theorem comp_coreX{R:T->Prop}{elt target iter:Expr}{ifs:List Expr}{scope sc0:Scope}{tn N0:List Str}{fr:List (Str×Nat)}{wi:WI}{g:TGt}{ut:WT}{we:WE}(hsc:X.env.scope=sc0)(hN0:X.N=N0)(hc:X.calm=true)(tkc:TakesC X R)
  (hi:JIc X target iter wi) (hk:scope.kind=.function) (hk0:sc0.kind=.function)
  (hnames:(scope.names.all fun x=>x.2 != .local||scope.names.lookup x.1==some .local)=true) (hcell:(scope.names.all fun x=>x.2 != .cell)=true)
  (hfree:(scope.names.all fun x=>x.2 != .free||sc0.names.lookup x.1==some .cell)=true)
  (hfr:(fr.all fun p=>(sc0.names.lookup p.1==some .cell&&scope.names.lookup p.1==some .free)&&N0[p.2]?==some p.1)=true)
  (hg:∀cl C s3 H2 ex,JG (compCx X (tn++fr.map (·.1)) scope cl C s3 H2 ex) target g) (hu:∀cl C s3 H2 ex,JTs (compCx X (tn++fr.map (·.1)) scope cl C s3 H2 ex) ifs ut)
  (he:∀cl C s3 H2 ex E0,TakesOn ((compCx X (tn++fr.map (·.1)) scope cl C s3 H2 ex).wish E0) R->JE ((compCx X (tn++fr.map (·.1)) scope cl C s3 H2 ex).wish E0) elt we)
  (hs:∀x,foldedSetIterable iter X.env x=pure x) {pos':Pos} {pins:List (Addr×Obj)} {s:Shared} {σ:St} {H:Hp} {QQ:Value->Shared->Prop} {use:Option (Value->Sem Unit)} (I:Inv X pins σ H s)
  {τ:List Slot} {Q0:T->Prop} (R0:RepSt X.K X.H₀ H σ τ) (hw:wComp wi g ut we tn.length (fr.map (·.2)) τ Q0)
  (hend:∀(s6:Shared)(H6:Hp)(D C:Addr)(m6:Str->Option Value)(t:T)(f:Flow),Inv X pins σ H6 s6->FpOk X pins H6 C->s6.heap.Ns C m6->Same H H6->Rep X.K H6 t (.ref D)->Q0 t->(∃(H5:Hp) (o:Obj) (vs:List V) (ts:List T),H6=upd H5 D (.frz o (.lst vs))/\H5 D=none/\Same H H5/\t=.lst ts/\Reps X.K H5 ts vs)->compPost (model X.prog X.w) X.A X.xe use QQ (.ref D) C (.ok f) s6) :
  wpAny (model X.prog X.w) X.A (comprehension (.ListComp elt [⟨target,iter,ifs,0⟩] scope pos) scope X.env pos' (newList []) false (eval iter X.env) use) QQ X.xe s:=by
 have hkindOf:∀x,X.env.kindOf x=sc0.names.lookup x:=fun x=>by show X.env.scope.names.lookup x=_;rw[hsc]
 have hfree':∀x∈scope.names,x.2=.free->X.env.kindOf x.1=some .cell:=fun x hx hf=>by
  have:=List.all_eq_true.mp hfree x hx
  rw[hkindOf]
  simpa [hf] using this
 have hcell':∀x∈scope.names,x.2 ≠ .cell:=fun x hx=>by
  have:=List.all_eq_true.mp hcell x hx
  simpa using this
 have hfN:∀p∈fr,X.N[p.2]?=some p.1:=fun p hp=>by
  have:=List.all_eq_true.mp hfr p hp
  rw[hN0]
  simp only[Bool.and_eq_true,beq_iff_eq]at this
  exact this.2
 have hfr':∀p∈fr,X.env.kindOf p.1=some .cell/\scope.names.lookup p.1=some .free:=fun p hp=>by
  have:=List.all_eq_true.mp hfr p hp
  rw[hkindOf]
  simp only[Bool.and_eq_true,beq_iff_eq]at this
  exact this.1
 obtain⟨cl,hclos,p1,p3⟩:=closureFor_of (scope:=scope) (env:=X.env) fun x hx hf=>I.ok.has x.1 (.inl (hfree' x hx hf))
 refine wpAny_comprehension_free (use:=use) rfl hs hclos hk (fun x hx hl=>?_) ?_
 ·have:=List.all_eq_true.mp hnames x hx
  simpa [hl] using this
 refine thn (hi pins s σ H (fun J H1=>∃ts,Same H H1/\WkS X.K J ts H1/\ts.length<=1000/\compT g ut we ts [] (List.replicate tn.length Slot.no++(fr.map (·.2)).map fun i=>hide (sget τ i)) fun rs=>Q0 (.lst rs)) I
  ⟨τ,_,R0,hw,fun ts J H' S wk q=>⟨ts,S,wk,q.1,q.2⟩⟩) fun v s1 h1=>thn h1 fun itv s2 h2=>?_
 obtain⟨it,fp,tn',J,H2,rfl,I2,Tn,st2,f2,ts,S2,wk,hlen,q⟩:=h2
 refine wpAny_newObj_type (wpAny_newFunctionEnv hcell' (by intro y hy;simp at hy) (fun h4 hns hsb=>?_) hk)
 dsimp only at hns hsb ⊢
 have hDn:H2 s2.heap.objs.size=none:=I2.hok.fresh (Nat.le_refl _)
 have I3:Inv X pins σ H2 {s2 with heap:=s2.heap.push {cls:=.type "list", dict:=none,data:=.seq ([]:List Value).toArray} }:=I2.kept (t':=s2.toks) fun b u e=>Heap.get?_push_of_some _ e
 have hsz:(s2.heap.push {cls:=.type "list", dict:=none,data:=.seq ([]:List Value).toArray}).objs.size=s2.heap.objs.size + 1:=Heap.size_push ..
 have hkeep:∀b o,(s2.heap.push {cls:=.type "list", dict:=none,data:=.seq ([]:List Value).toArray}).get? b=some o->h4.get? b=some o:=fun b o e=>hsb.extBut b o (Nat.ne_of_lt (Heap.lt_size e)) (Heap.get?_push_of_some _ e)
 have hDat:h4.get? s2.heap.objs.size=some {cls:=.type "list", dict:=none,data:=.seq ([]:List Value).toArray}:=hkeep _ _ (Heap.get?_push_size _ rfl)
 have fpD:∀b∈s2.heap.objs.size::fp,FpOk X pins H2 b:=fun b hb=>by
  rcases List.mem_cons.mp hb with rfl|hb
  ·exact I2.fpOk (Nat.le_refl _) hDn
  ·exact f2 b hb
 have ltD:∀b∈fp,b < s2.heap.objs.size:=fun b hb=>by
  obtain⟨o,e,_⟩:=Tn.obj _ _ st2 b hb
  exact Heap.lt_size e
 have ltD':∀b∈s2.heap.objs.size::fp,b < (s2.heap.push {cls:=.type "list", dict:=none,data:=.seq ([]:List Value).toArray}).objs.size:=fun b hb=>by
  rw[hsz]
  rcases List.mem_cons.mp hb with rfl|hb
  ·exact Nat.lt_succ_self _
  ·exact Nat.lt_succ_of_lt (ltD b hb)
 have hhas:∀x,((relabel scope X.env).names.lookup x=some .cell∨(relabel scope X.env).names.lookup x=some .free)->∃c,cl.lookup x=some c:=fun x hx=>by
  have z:∃k',(relabel scope X.env).names.lookup x=some k'/\(k'=.cell∨k'=.free):=by
   rcases hx with hx|hx
   ·exact⟨_,hx,.inl rfl⟩
   ·exact⟨_,hx,.inr rfl⟩
  obtain⟨k',e,hk'⟩:=z
  obtain⟨k,hm,hkk⟩:=relabel_mem e
  have hf:k=.free:=by
   rcases hkk with rfl|⟨h,_⟩
   ·rcases hk' with rfl|rfl
    ·exact absurd rfl (hcell' _ hm)
    ·rfl
   ·exact h
  subst hf
  exact p3 (x,.free) hm rfl
 obtain⟨m3,hn3,hl3⟩:=I3.loc
 have J4:Inv (compCx X (tn++fr.map (·.1)) scope cl (s2.heap.push {cls:=.type "list", dict:=none,data:=.seq ([]:List Value).toArray}).objs.size {s2 with heap:=s2.heap.push {cls:=.type "list", dict:=none,data:=.seq ([]:List Value).toArray} } H2 (s2.heap.objs.size::fp)) []
   (slotsOf σ tn.length fr) H2 {s2 with heap:=h4,toks:=s2.toks + ([]:List (Str×Value)).length}:=by
  refine comp_start I3 hc hk (Nat.le_refl _) p1 hhas fpD ltD' rfl I2.bare hkeep hns (fun i x v h1 h2=>?_) (by simp[slotsOf])
  unfold slotsOf at h2
  by_cases hi:i < tn.length
  ·rw[List.getElem?_append_left (by simpa using hi),List.getElem?_replicate]at h2
   split at h2<;>cases h2
  ·rw [List.getElem?_append_right (by simpa using hi),List.length_replicate,List.getElem?_map]at h2
   rw[List.getElem?_append_right (by omega),List.getElem?_map]at h1
   cases ep:fr[i - tn.length]? with
   | none=>rw[ep]at h1;cases h1
   | some p =>
    rw[ep]at h1 h2
    have h1':p.1=x:=by simpa using h1
    have h2':(σ[p.2]?).getD none=some v:=by simpa using h2
    have h2'':σ[p.2]?=some (some v):=by
     cases e:σ[p.2]? with
     | none=>rw[e]at h2';cases h2'
     | some z=>rw[e]at h2';exact congrArg some h2'
    have hp:p∈fr:=List.mem_of_getElem? ep
    obtain⟨k1,k2⟩:=hfr' p hp
    subst h1'
    obtain⟨u,ru,lk⟩:=hl3 p.2 p.1 v (hfN p hp) h2'' (.inr (.inl k1))
    refine⟨u,ru,.inr ⟨.inl ?_,?_⟩⟩
    ·exact relabel_free (by rw[hsc];exact hk0) k2 k1
    ·rcases lk with ⟨z,_⟩|⟨_,c,e,o,ho,hd⟩
     ·rw[k1]at z;cases z
     ·obtain⟨c',e'⟩:=p3 (p.1,.free) (PySem.mem_of_lookup k2) rfl
      have:=p1 _ _ e'
      rw[e]at this
      cases this
      exact⟨c,e',o,hkeep c o ho,hd⟩
 have R4:RepSt X.K H2 H2 (slotsOf σ tn.length fr) (List.replicate tn.length Slot.no++(fr.map (·.2)).map fun i=>hide (sget τ i)):=repSt_comp tn.length fr R0 S2
 have ne:(s2.heap.objs.size:Addr)∉fp:=fun z=>absurd (ltD _ z) (Nat.lt_irrefl _)
 have st4:tn' 0 h4:=Tn.keep _ _ _ st2 fun b hb o e=>hkeep b o (Heap.get?_push_of_some _ e)
 have tko:∀E0,E0=(notedBy (model X.prog X.w) X.A (compEnvC scope cl (s2.heap.push {cls:=.type "list", dict:=none,data:=.seq ([]:List Value).toArray}).objs.size X.env) fun x s6=>compPost (model X.prog X.w) X.A X.xe use QQ (.ref s2.heap.objs.size) (s2.heap.push {cls:=.type "list", dict:=none,data:=.seq ([]:List Value).toArray}).objs.size (.error x) s6) →
   TakesOn ((compCx X (tn++fr.map (·.1)) scope cl (s2.heap.push {cls:=.type "list", dict:=none,data:=.seq ([]:List Value).toArray}).objs.size {s2 with heap:=s2.heap.push {cls:=.type "list", dict:=none,data:=.seq ([]:List Value).toArray} } H2 (s2.heap.objs.size::fp)).wish E0) R:=by
  intro E0 hE0
  refine⟨fun pins' σ' Hc H' sc s' a C dx Ic S0 fl da S1 h1=>?_⟩
  have Ic':=Ic.unwish
  have IX:Inv X pins σ Hc sc:=comp_mid (s2:=s2) (X':=compCx X (tn++fr.map (·.1)) scope cl (s2.heap.push {cls:=.type "list", dict:=none,data:=.seq ([]:List Value).toArray}).objs.size {s2 with heap:=s2.heap.push {cls:=.type "list", dict:=none,data:=.seq ([]:List Value).toArray} } H2 (s2.heap.objs.size::fp)) (h3:=s2.heap.push {cls:=.type "list", dict:=none,data:=.seq ([]:List Value).toArray}) (Da:=s2.heap.objs.size) rfl rfl rfl rfl rfl rfl rfl hsz (fun b o e=>Heap.get?_push_of_some _ e) rfl I2 f2 Ic'
  obtain⟨mC,hnC,_⟩:=Ic'.loc
  obtain⟨oC,es,ep,hoC,hdC,hrC⟩:=id hnC
  have hoC':sc.heap.get? (s2.heap.push {cls:=.type "list", dict:=none,data:=.seq ([]:List Value).toArray}).objs.size=some oC:=hoC
  have free:Hc (s2.heap.push {cls:=.type "list", dict:=none,data:=.seq ([]:List Value).toArray}).objs.size=none:=Ic'.free
  have cF:(s2.heap.push {cls:=.type "list", dict:=none,data:=.seq ([]:List Value).toArray}).objs.size∉frs X.stack:=fun z=>by
   have z':(s2.heap.push {cls:=.type "list", dict:=none,data:=.seq ([]:List Value).toArray}).objs.size∈X.stack.filterMap (·.frame):=z
   obtain⟨_,ob,eb,_⟩:=(I2.stack).mem z'
   have:=Heap.lt_size eb
   rw[hsz]at this
   exact absurd (Nat.lt_of_succ_lt this) (Nat.lt_irrefl _)
  have cN:X.s₀.heap.get? (s2.heap.push {cls:=.type "list", dict:=none,data:=.seq ([]:List Value).toArray}).objs.size=none:=by
   cases q:X.s₀.heap.get? (s2.heap.push {cls:=.type "list", dict:=none,data:=.seq ([]:List Value).toArray}).objs.size with
   | none=>rfl
   | some o =>
    obtain⟨o1,e1⟩:=I2.base.there _ o q (by rw[tkc.ex];simp)
    have:=Heap.lt_size e1
    rw[hsz]at this
    exact absurd (Nat.lt_of_succ_lt this) (Nat.lt_irrefl _)
  have hns':s'.heap.Ns (s2.heap.push {cls:=.type "list", dict:=none,data:=.seq ([]:List Value).toArray}).objs.size mC:=⟨oC,es,ep,fl.un.keep _ oC hoC' free cF (by simp),hdC,hrC⟩
  show E0 (.ref a) s'
  rw[hE0]
  exact tkc.cm pins σ Hc H' sc s' a C dx _ mC (compEnvC scope cl (s2.heap.push {cls:=.type "list", dict:=none,data:=.seq ([]:List Value).toArray}).objs.size X.env) use QQ (.ref s2.heap.objs.size) IX (R0.same.trans (S2.trans S0)) fl da S1 h1 cN (fl.un.free _ oC hoC' free (by simp)) cF hns' rfl
 have lp:=comp_loopX (scope:=scope) (H2:=H2) (s2:=s2) (X:=X) (X':=compCx X (tn++fr.map (·.1)) scope cl (s2.heap.push {cls:=.type "list", dict:=none,data:=.seq ([]:List Value).toArray}).objs.size {s2 with heap:=s2.heap.push {cls:=.type "list", dict:=none,data:=.seq ([]:List Value).toArray} } H2 (s2.heap.objs.size::fp)) (h3:=s2.heap.push {cls:=.type "list", dict:=none,data:=.seq ([]:List Value).toArray}) (pins:=pins) (s4:={s2 with heap:=h4,toks:=s2.toks + ([]:List (Str×Value)).length}) (use:=use) (QQ:=QQ) (iter:=iter) (pos:=pos) (hg _ _ _ _ _) (hu _ _ _ _ _) (he _ _ _ _ _ _ (tko _ rfl)) rfl rfl rfl rfl rfl rfl rfl rfl rfl rfl rfl rfl hsz (fun b o e=>Heap.get?_push_of_some _ e) rfl I2 f2 Tn ne S2 wk hlen J4 R4 st4 (fun b hb=>(fpD b hb).1) hDat q (fun H6 h=>I3.fpOk (Nat.le_refl _) h) hend
 exact codeAny_compStart_list lp (Tn.self _ 0 _ _ _ st4 lp)
end
end TL
end
section
namespace TL
open PySem PySem.Spec PyProof.Rows L2
open Classical in
noncomputable def hidH(H:Hp)(F:Addr->Prop):Hp:=fun b=>if F b then none else H b
theorem hid_in{H:Hp}{F:Addr->Prop}{b:Addr}(h:F b):hidH H F b=none:=if_pos h
theorem hid_out{H:Hp}{F:Addr->Prop}{b:Addr}(h:¬ F b):hidH H F b=H b:=if_neg h
theorem hid_some{H:Hp}{F:Addr->Prop}{b:Addr}{o:HO}(h:hidH H F b=some o):¬ F b/\H b=some o:=by
 by_cases z:F b
 ·rw[hid_in z]at h;cases h
 ·exact⟨z,by rw[hid_out z]at h;exact h⟩
theorem hid_same(H:Hp)(F:Addr->Prop):Same (hidH H F) H:=fun b o q=>(hid_some q).2
theorem hid_mono{H H':Hp}{F F':Addr->Prop}(S:Same H H')(h:∀b,F' b->F b∨H b=none):Same (hidH H F) (hidH H' F'):=fun b o q=>by
 obtain⟨n,e⟩:=hid_some q
 rw[hid_out fun z=>?_]
 ·exact S b o e
 ·rcases h b z with z|z
  ·exact n z
  ·rw[e]at z;cases z
theorem hid_upd{H:Hp}{F:Addr->Prop}{q:Addr}{o:HO}(h:F q):hidH (upd H q o) F=hidH H F:=by
 funext b
 by_cases z:F b
 ·rw[hid_in z,hid_in z]
 ·rw[hid_out z,hid_out z,upd_ne fun e=>z (by rw[e];exact h)]
def LikeT(K:PySem.W.Frag)(H H':Hp):Prop:=∀a xs,SqT K H a xs->SqT K H' a xs
theorem LikeT.same{K:PySem.W.Frag}{H H':Hp}(S:Same H H'):LikeT K H H':=fun a xs h=>by
 rcases h with (h|⟨o,h⟩)|h
 ·exact .inl (.inl (S _ _ h))
 ·exact .inl (.inr ⟨o,S _ _ h⟩)
 ·exact .inr h
theorem LikeT.but{K:PySem.W.Frag}{H H':Hp}{F:Addr->Prop}(hF:∀q,F q->(∃ws,H q=some (.lst ws))∨∃o ws,H q=some (.frz o (.lst ws)))(h:∀b,¬ F b->H' b=H b):LikeT K H H':=fun a xs q=>by
 have n:∀u,H a=some u->(∀ws,u ≠ .lst ws)->(∀o ws,u ≠ .frz o (.lst ws))->¬ F a:=fun u e n1 n2 z=>by
  rcases hF a z with ⟨ws,e'⟩|⟨o,ws,e'⟩
  ·rw[e']at e;cases e;exact n1 ws rfl
  ·rw[e']at e;cases e;exact n2 o ws rfl
 rcases q with (q|⟨o,q⟩)|q
 ·exact .inl (.inl (by rw[h a (n _ q (fun _ z=>by cases z) (fun _ _ z=>by cases z))];exact q))
 ·exact .inl (.inr ⟨o,by rw[h a (n _ q (fun _ z=>by cases z) (fun _ _ z=>by cases z))];exact q⟩)
 ·exact .inr q
abbrev rawL(H:Hp)(q:Addr)(ws:List V):Prop:=H q=some (.lst ws)
abbrev frzL(H:Hp)(q:Addr)(ws:List V):Prop:=∃o,H q=some (.frz o (.lst ws))
inductive OTs (K:PySem.W.Frag) (H:Hp) (L:Addr->List V->Prop):List T->List V->List Addr->Prop
 | nil:OTs K H L [] [] []
 | plain {t:T} {v:V} {ts:List T} {vs:List V} {F:List Addr}:noL t=true->Rep K H t v->OTs K H L ts vs F->OTs K H L (t::ts) (v::vs) F
 | list {q:Addr} {us ts:List T} {ws vs:List V} {F:List Addr}:L q ws->noLs us=true->Reps K H us ws->q∉F->OTs K H L ts vs F->OTs K H L (.lst us::ts) (.ref q::vs) (q::F)
theorem OTs.like{K:PySem.W.Frag}{H H':Hp}{L L':Addr->List V->Prop}{ts:List T}{vs:List V}{F:List Addr}(h:OTs K H L ts vs F)(k:LikeT K H H')(hL:∀q ws,q∈F->L q ws->L' q ws):OTs K H' L' ts vs F:=by
 induction h with
 | nil=>exact .nil
 | plain n r _ ih=>exact .plain n (Rep.noL k n r) (ih hL)
 | list l n r nq _ ih=>exact .list (hL _ _ List.mem_cons_self l) n (Reps.noL k n r) nq (ih fun q ws m=>hL q ws (List.mem_cons_of_mem _ m))
theorem OTs.lists{K:PySem.W.Frag}{H:Hp}{L:Addr->List V->Prop}{ts:List T}{vs:List V}{F:List Addr}(h:OTs K H L ts vs F):∀q∈F,∃ws,L q ws:=by
 induction h with
 | nil=>exact fun q m=>by cases m
 | plain _ _ _ ih=>exact ih
 | list l _ _ _ _ ih =>
  intro q m
  rcases List.mem_cons.mp m with rfl|m
  ·exact⟨_,l⟩
  ·exact ih q m
section
variable {X:Cx} {pins:List (Addr×Obj)} {σ:St} {s:Shared}
theorem OTs.freeze{K:PySem.W.Frag}:∀{ts:List T}{vs:List V}{F:List Addr}{H:Hp},OTs K H (rawL H) ts vs F->Inv X pins σ H s->∃H',Inv X pins σ H' s/\OTs K H' (frzL H') ts vs F/\∀b,b∉F->H' b=H b
 | _,_,_,H,.nil,I=>⟨H,I,.nil,fun _ _=>rfl⟩
 | _,_,_,H,.plain n r h,I=>by
  have hl:=h.lists
  obtain⟨H',I',h',e⟩:=OTs.freeze h I
  exact⟨H',I',.plain n (Rep.noL (LikeT.but (F:=(· ∈ _)) (fun q m=>.inl (hl q m)) e) n r) h',e⟩
 | _,_,_,H,.list (q:=q) (ws:=ws) (F:=F) l n r nq h,I=>by
  obtain⟨o,I1⟩:=Inv.freeze I l
  have lk:LikeT K H (upd H q (.frz o (.lst ws))):=LikeT.but (F:=(·=q)) (fun b m=>.inl ⟨ws,by rw[m];exact l⟩) fun b m=>upd_ne m
  have h1:OTs K (upd H q (.frz o (.lst ws))) (rawL (upd H q (.frz o (.lst ws)))) _ _ F:=h.like lk fun b vs m z=>by
   show upd H q _ b=_
   rw[upd_ne (fun e=>nq (by rw[← e];exact m))]
   exact z
  have hl:=h1.lists
  obtain⟨H',I',h',e⟩:=OTs.freeze h1 I1
  have lk2:LikeT K (upd H q (.frz o (.lst ws))) H':=LikeT.but (F:=(· ∈ F)) (fun b m=>.inl (hl b m)) e
  refine⟨H',I',.list ⟨o,by rw[e q nq];exact upd_same⟩ n (Reps.noL lk2 n (Reps.noL lk n r)) nq h',fun b hb=>?_⟩
  rw[e b fun z=>hb (List.mem_cons_of_mem _ z),upd_ne fun z=>hb (by rw[z];exact List.mem_cons_self)]
end
def ownsT(τ:List Slot):List Nat->(List T->Prop)->Prop
 | [],Q=>Q []
 | i::is,Q=>match sget τ i with | .own us=>noLs us=true/\ownsT τ is fun ts=>Q (.lst us::ts)|_=>False
def tVars:List Nat->TA
 | []=>tNil
 | i::is=>tCons (tVar i) (tVars is)
theorem owns_at{K:PySem.W.Frag}{H0 H:Hp}{σ:St}{τ:List Slot}(R:RepSt K H0 H σ τ):∀{is:List Nat}{Q:List T->Prop},is.Nodup->ownsT τ is Q->∃ts vs F,OTs K H (rawL H) ts vs F/\(∀q∈F,H0 q=none/\∃i∈is,σ[i]?=some (some (.ref q))/\∃us,sget τ i=.own us)/\Q ts/\vs.length=is.length/\∀(H1:Hp)(QQ:List V->Hp->Prop),QQ vs H1->tVars is σ H1 QQ
 | [],Q,_,h=>⟨[],[],[],.nil,(fun q m=>absurd m (by simp)),h,rfl,fun _ _ q=>q⟩
 | i :: is,Q,nd,h=>by
  unfold ownsT at h
  cases own:sget τ i with
  | own us =>
   rw[own]at h
   obtain⟨n,h⟩:=h
   have sl:=R.slot i
   rw[own]at sl
   obtain⟨p,ws,ev,hp,rr,n0⟩:=sl
   have nd':=List.nodup_cons.mp nd
   obtain⟨ts,vs,F,ot,hF,q,hl,hv⟩:=owns_at R nd'.2 h
   refine⟨.lst us::ts,.ref p::vs,p::F,.list hp n rr (fun m=>?_) ot,fun q m=>?_,q,by simp[hl],fun H1 QQ z=>⟨.ref p,ev,hv H1 _ z⟩⟩
   ·obtain⟨_,j,mj,ej,us',oj⟩:=hF p m
    exact R.apart i j us us' p (fun e=>nd'.1 (by rw[e];exact mj)) own oj ev ej
   ·rcases List.mem_cons.mp m with rfl|m
    ·exact⟨n0,i,List.mem_cons_self,ev,us,own⟩
    ·obtain⟨a,j,mj,r⟩:=hF q m
     exact⟨a,j,List.mem_cons_of_mem _ mj,r⟩
  | _=>rw[own]at h;exact h.elim
section
variable {X:Cx} {e b:Expr} {es:List Expr} {wa wb w:WE} {ws:WA} {pos:Pos}
end
def isV:Slot->Bool
 | .vat _ _=>true
 | _=>false
def drop1:Slot->Slot
 | .vat _ _=>.no
 | s=>s
def dropV(τ:List Slot):List Slot:=τ.map drop1
def noV(τ:List Slot):Bool:=τ.all fun s=>!isV s
theorem sget_map{f:Slot->Slot}(h:f .no=.no):∀(τ:List Slot)(i:Nat),sget (τ.map f) i=f (sget τ i)
 | [],i=>by simp only[List.map_nil,sget];exact h.symm
 | x::r,0=>rfl
 | x::r,i + 1=>by simp only[List.map_cons,sget];exact sget_map h r i
theorem map_sput{f:Slot->Slot}:∀(τ:List Slot)(i:Nat)(x:Slot),(sput τ i x).map f=sput (τ.map f) i (f x)
 | [],_,_=>rfl
 | _::_,0,_=>rfl
 | y::r,i + 1,x=>by simp only[sput,List.map_cons,map_sput r i x]
theorem noV_at:∀{τ:List Slot}(i:Nat),noV τ=true->isV (sget τ i)=false
 | [],_,_=>rfl
 | x::r,i,h=>by
  unfold noV at h
  rw[List.all_cons,Bool.and_eq_true]at h
  cases i with
  | zero=>simpa [sget] using h.1
  | succ i=>exact noV_at (τ:=r) i h.2
theorem RepSt.away{K:PySem.W.Frag}{H0 H:Hp}{σ:St}{τ:List Slot}{i:Nat}{x:Option V}(R:RepSt K H0 H σ τ):RepSt K H0 H (σ.set i x) (sput τ i .no):=by
 have nown:∀c ts,sget (sput τ i .no) c=.own ts->i≠c/\sget τ c=.own ts:=fun c ts h=>by
  by_cases hc:i=c
  ·subst hc
   by_cases hi:i < τ.length
   ·rw[sget_same hi]at h;cases h
   ·rw[sget_big (by rw[length_sput];omega)]at h;cases h
  ·rw[sget_ne hc]at h
   exact⟨hc,h⟩
 refine⟨R.same,by rw[length_sput,List.length_set];exact R.len,fun j=>?_,fun a b ts us p hab ha hb ea eb=>?_⟩
 ·by_cases hij:i=j
  ·subst hij
   by_cases hi:i < τ.length
   ·rw[sget_same hi];trivial
   ·rw[sget_big (by rw[length_sput];omega)];trivial
  ·rw[sget_ne hij,List.getElem?_set_ne hij]
   exact R.slot j
 ·obtain⟨na,ha⟩:=nown a ts ha
  obtain⟨nb,hb⟩:=nown b us hb
  rw[List.getElem?_set_ne na]at ea
  rw[List.getElem?_set_ne nb]at eb
  exact R.apart a b ts us p hab ha hb ea eb
section
variable {K:PySem.W.Frag} {H0 Hs H H':Hp} {σ:St} {τ:List Slot} {Fs:Nat->List Addr}
end
section
variable {X:Cx} {e b c:Expr} {es:List Expr} {wa wb w:WE} {ws:WA} {ua:WT} {t u:WS} {pos:Pos} {st:Stmt} {rest a d:List Stmt}
def sEnt(w:WS):WS:=fun D τ=>noV τ=true/\w {nx:=fun τ'=>D.nx (dropV τ'),rt:=D.rt,bk:=fun τ'=>D.bk (dropV τ'),ct:=fun τ'=>D.ct (dropV τ')} τ
theorem mt_appendF:MtM X "list.append" (fun x vs H Q=>∃q xs y o,x=.ref q/\vs=[y]/\H q=some (.frz o (.lst xs))/\X.H₀ q=none/\xs.length < sizeLine/\∀o',Q .non (upd H q (.frz o' (.lst (xs++[y]))))):=by
 intro pins s σ H x vs v us Q I rx rv h
 obtain⟨q,xs,y,o,e1,e2,hq,h0,hz,k⟩:=h
 have I1:=Inv.unfreeze I hq h0
 refine thn (mt_append pins s σ _ x vs v us (fun v' H'=>v'=.non/\H'=upd H q (.lst (xs++[y]))) I1 rx rv ⟨q,xs,y,e1,e2,upd_same,hz,rfl,by rw[upd_upd]⟩) fun u s1 ⟨v',H1,I2,rv',e3,e4⟩=>?_
 subst e3 e4
 obtain⟨o',I3⟩:=Inv.freeze I2 (upd_same (o:=.lst (xs++[y])))
 rw[upd_upd]at I3
 exact⟨.non,_,I3,rv',k o'⟩
end
section
variable {X:Cx} {e b c:Expr} {es:List Expr} {wa wb w:WE} {ws:WA} {pos:Pos} {st:Stmt}
theorem pv_nil:PA X [] (tVars []):=pa_nil
theorem pv_cons{i:Nat}{is:List Nat}(hv:PE X e (tVar i))(h:PA X es (tVars is))(hs:starEach (e::es) X.env=(false,eval e X.env)::starEach es X.env:=by rfl):PA X (e::es) (tVars (i::is)):=pa_cons hv h hs
end
section
variable {X:Cx} {e b c a:Expr} {es:List Expr} {wa wb w:WE} {ws:WA} {pos:Pos}
end
end TL
end
section
namespace TL
open PySem PySem.Spec PyProof.Rows L2
section
variable {X:Cx} {e b c:Expr} {es:List Expr} {wa wb w:WE} {ws:WA} {ua:WT} {t u:WS} {pos:Pos} {st:Stmt} {rest a d:List Stmt}
def sNoR(w:WS):WS:=fun D τ=>w {nx:=D.nx,rt:=fun _=>False} τ
end
end TL
end
section
namespace TL
open PySem PySem.Spec PyProof.Rows L2
theorem mt_clearF{X:Cx}:MtM X "list.clear" (fun x vs H Q=>∃q xs o,x=.ref q/\vs=[]/\H q=some (.frz o (.lst xs))/\X.H₀ q=none/\∀o',Q .non (upd H q (.frz o' (.lst [])))):=by
 intro pins s σ H x vs v us Q I rx rv h
 obtain⟨q,xs,o,e1,e2,hq,h0,k⟩:=h
 have I1:=Inv.unfreeze I hq h0
 refine thn (mt_clear pins s σ _ x vs v us (fun v' H'=>v'=.non/\H'=upd H q (.lst [])) I1 rx rv ⟨q,xs,e1,e2,upd_same,rfl,by rw[upd_upd]⟩) fun u s1 ⟨v',H1,I2,rv',e3,e4⟩=>?_
 subst e3 e4
 obtain⟨o',I3⟩:=Inv.freeze I2 (upd_same (o:=.lst []))
 rw[upd_upd]at I3
 exact⟨.non,_,I3,rv',k o'⟩
theorem sput_self:∀(τ:List Slot)(i:Nat),sput τ i (sget τ i)=τ
 | [],_=>rfl
 | _::_,0=>rfl
 | x::r,i + 1=>by
  have:=sput_self r i
  show x::sput r i (sget r i)=x::r
  rw[this]
def allL:List T->Bool
 | []=>true
 | .lst _::ts=>allL ts
 | _=>false
section
variable {X:Cx} {pos:Pos}
end
end TL
namespace TL
open PySem PySem.Spec PyProof.Rows L2
theorem fnT0{P:Program}{w:World}{K:PySem.W.Frag}{mg:Str->Option Value}{base:Heap}{x qual:Str}{st:Stmt}{f:Addr}{fd:FuncData}{N ps:List Str}{k:Nat}{S:SpT}(F:Fun K x qual st f fd)(SC:FnScope N ps (defScope st))
  (hlen:∀ts Q,S ts Q->ts.length=ps.length) (hno:∀ts Q,¬ S ts Q):FnT P w K mg base (k + 1) f fd ps S:=by
 refine⟨F.ok SC (fun vs H Q E h=>?_) (fun cdv A outer s H vs Q E hr h=>?_),hlen⟩
 ·obtain⟨_,_,e,_⟩:=h
  exact e
 ·obtain⟨ts,Q0,e,r,hS,q⟩:=h
  exact(hno _ _ hS).elim
end TL
end
section
namespace TL
open PySem PySem.Spec PyProof.Rows L2
section
variable {X:Cx} {e b c a:Expr} {es:List Expr} {wa wb w:WE} {ws:WA} {pos:Pos}
theorem RepSt.hide{K:PySem.W.Frag}{H0 H:Hp}{σ:St}{τ:List Slot}{i:Nat}{v:Option V}(R:RepSt K H0 H σ τ):RepSt K H0 H (σ.set i v) (sput τ i .no):=by
 refine⟨R.same,by rw[length_sput,List.length_set];exact R.len,fun j=>?_,fun a b ts us p hab ha hb ea eb=>?_⟩
 ·by_cases hij:i=j
  ·subst hij
   by_cases hi:i < τ.length
   ·rw[sget_same hi];trivial
   ·rw[sget_big (by rw[length_sput];omega)];trivial
  ·rw[sget_ne hij,List.getElem?_set_ne hij]
   exact R.slot j
 ·have na:∀{c:Nat}{ts:List T},sget (sput τ i .no) c=.own ts->i≠c:=fun {c ts} h z=>by
   subst z
   by_cases hi:i < τ.length
   ·rw[sget_same hi]at h;cases h
   ·rw[sget_big (by rw[length_sput];omega)]at h;cases h
  have n1:=na ha
  have n2:=na hb
  rw[sget_ne n1]at ha
  rw[sget_ne n2]at hb
  rw[List.getElem?_set_ne n1]at ea
  rw[List.getElem?_set_ne n2]at eb
  exact R.apart a b ts us p hab ha hb ea eb
end
end TL
end
section
namespace TL
open PySem PySem.Spec PyProof.Rows L2
mutual
def GRep(K:PySem.W.Frag)(H:Hp)(G:Addr->Prop):T->V->Prop
 | .non,v=>v=.non
 | .bl b,v=>v=.bl b
 | .int i,v=>v=.int i
 | .str x,v=>v=.str x
 | .tup ts,v=>∃p vs,v=.ref p/\SqT K H p vs/\GReps K H G ts vs
 | .lst ts,v=>∃p vs o,v=.ref p/\G p/\H p=some (.frz o (.lst vs))/\GReps K H G ts vs
 | .dct,_=>False
 | .exc _,_=>False
 | .exf _ _ _,_=>False
 | .dic _ _,_=>False
def GReps(K:PySem.W.Frag)(H:Hp)(G:Addr->Prop):List T->List V->Prop
 | [],vs=>vs=[]
 | t::ts,vs=>∃v r,vs=v::r/\GRep K H G t v/\GReps K H G ts r
end
mutual
def nD:T->Bool
 | .tup ts=>nDs ts
 | .lst ts=>nDs ts
 | .dct=>false
 | .exc _=>false
 | .exf _ _ _=>false
 | .dic _ _=>false
 | _=>true
def nDs:List T->Bool
 | []=>true
 | t::ts=>nD t&&nDs ts
end
section
variable {K:PySem.W.Frag} {H H':Hp} {G G':Addr->Prop}
mutual
theorem GRep.rep:∀{t:T}{v:V},GRep K H G t v->Rep K H t v
 | .non,v,h=>by rw[GRep]at h;rw[rep_non];exact h
 | .bl b,v,h=>by rw[GRep]at h;rw[rep_bl];exact h
 | .int i,v,h=>by rw[GRep]at h;rw[rep_int];exact h
 | .str x,v,h=>by rw[GRep]at h;rw[rep_str];exact h
 | .tup ts,v,h=>by
  rw[GRep]at h
  obtain⟨p,vs,e,s,r⟩:=h
  exact rep_tup.mpr ⟨p,vs,e,s,GReps.reps r⟩
 | .lst ts,v,h=>by
  rw[GRep]at h
  obtain⟨p,vs,o,e,_,s,r⟩:=h
  exact rep_lst.mpr ⟨p,vs,e,.inl ⟨o,s⟩,GReps.reps r⟩
 | .dct,v,h=>by rw[GRep]at h;exact h.elim
 | .exc _,v,h=>by rw[GRep]at h;exact h.elim
 | .exf _ _ _,v,h=>by rw[GRep]at h;exact h.elim
 | .dic _ _,v,h=>by rw[GRep]at h;exact h.elim
theorem GReps.reps:∀{ts:List T}{vs:List V},GReps K H G ts vs->Reps K H ts vs
 | [],vs,h=>by rw[GReps]at h;rw[reps_nil];exact h
 | t::ts,vs,h=>by
  rw[GReps]at h
  obtain⟨v,r,e,a,b⟩:=h
  exact reps_cons.mpr ⟨v,r,e,GRep.rep a,GReps.reps b⟩
end
mutual
theorem GRep.like(k:LikeT K H H')(hl:∀q o xs,G q->H q=some (.frz o (.lst xs))->H' q=some (.frz o (.lst xs)))(hg:∀q,G q->G' q):∀{t:T}{v:V},GRep K H G t v->GRep K H' G' t v
 | .non,v,h=>by rw[GRep]at h ⊢;exact h
 | .bl b,v,h=>by rw[GRep]at h ⊢;exact h
 | .int i,v,h=>by rw[GRep]at h ⊢;exact h
 | .str x,v,h=>by rw[GRep]at h ⊢;exact h
 | .tup ts,v,h=>by
  rw[GRep]at h ⊢
  obtain⟨p,vs,e,s,r⟩:=h
  exact⟨p,vs,e,k _ _ s,GReps.like k hl hg r⟩
 | .lst ts,v,h=>by
  rw[GRep]at h ⊢
  obtain⟨p,vs,o,e,g,s,r⟩:=h
  exact⟨p,vs,o,e,hg p g,hl p o vs g s,GReps.like k hl hg r⟩
 | .dct,v,h=>by rw[GRep]at h;exact h.elim
 | .exc _,v,h=>by rw[GRep]at h;exact h.elim
 | .exf _ _ _,v,h=>by rw[GRep]at h;exact h.elim
 | .dic _ _,v,h=>by rw[GRep]at h;exact h.elim
theorem GReps.like(k:LikeT K H H')(hl:∀q o xs,G q->H q=some (.frz o (.lst xs))->H' q=some (.frz o (.lst xs)))(hg:∀q,G q->G' q):∀{ts:List T}{vs:List V},GReps K H G ts vs->GReps K H' G' ts vs
 | [],vs,h=>by rw[GReps]at h ⊢;exact h
 | t::ts,vs,h=>by
  rw[GReps]at h ⊢
  obtain⟨v,r,e,a,b⟩:=h
  exact⟨v,r,e,GRep.like k hl hg a,GReps.like k hl hg b⟩
end
theorem GRep.same(S:Same H H'){t:T}{v:V}(h:GRep K H G t v):GRep K H' G t v:=h.like (.same S) (fun q o xs _ e=>S _ _ e) fun q g=>g
end
section
variable {X:Cx} {pins:List (Addr×Obj)} {σ:St} {H:Hp} {s s':Shared} {G:Addr->Prop}
end
structure RG(K:PySem.W.Frag)(H0 Hs H:Hp)(σ:St)(τ:List Slot)(G:Addr->Prop):Prop where
 kp:Kp Hs (hidH H G)
 rep:RepSt K H0 (hidH H G) σ (dropV τ)
 vat:∀i t v,sget τ i=.vat t v->σ[i]?=some (some v)/\GRep K H G t v
 new:∀q,G q->H0 q=none
 fz:∀q,G q->∃o ws,H q=some (.frz o (.lst ws))
def RepG(K:PySem.W.Frag)(H0 Hs H:Hp)(σ:St)(τ:List Slot):Prop:=∃G,RG K H0 Hs H σ τ G
section
variable {K:PySem.W.Frag} {H0 Hs H H':Hp} {σ:St} {τ:List Slot} {G:Addr->Prop}
theorem RG.same0(R:RG K H0 Hs H σ τ G):Same H0 H:=R.rep.same.trans (hid_same _ _)
theorem RG.weak(R:RG K H0 Hs H σ τ G):RepSt K H0 H σ τ:=by
 have W:=R.rep.mono (hid_same H G)
 have sg:∀i,sget (dropV τ) i=drop1 (sget τ i):=sget_map rfl τ
 refine⟨R.same0,by have:=W.len;unfold dropV at this;rw[List.length_map]at this;exact this,fun i=>?_,fun a b ts us p hab ha hb ea eb=>?_⟩
 ·have sl:=W.slot i
  rw[sg]at sl
  cases z:sget τ i with
  | vat t v =>
   obtain⟨e,g⟩:=R.vat i t v z
   exact⟨e,g.rep⟩
  | _=>rw[z]at sl;exact sl
 ·exact W.apart a b ts us p hab (by rw[sg,ha];rfl) (by rw[sg,hb];rfl) ea eb
theorem RG.drops(R:RG K H0 Hs H σ τ G):RepSt K H0 H σ (dropV τ):=R.rep.mono (hid_same _ _)
theorem RG.kpH(R:RG K H0 Hs H σ τ G):Kp Hs H:=R.kp.trans (.of (hid_same _ _))
theorem RG.mono(R:RG K H0 Hs H σ τ G)(S:Same H H'):RG K H0 Hs H' σ τ G:=by
 have S':Same (hidH H G) (hidH H' G):=hid_mono S fun b z=>.inl z
 refine⟨R.kp.trans (.of S'),R.rep.mono S',fun i t v e=>?_,R.new,fun q g=>?_⟩
 ·obtain⟨a,g⟩:=R.vat i t v e
  exact⟨a,g.same S⟩
 ·obtain⟨o,ws,e⟩:=R.fz q g
  exact⟨o,ws,S _ _ e⟩
theorem drop_no{τ:List Slot}(h:noV τ=true):dropV τ=τ:=by
 unfold dropV
 induction τ with
 | nil=>rfl
 | cons x r ih =>
  unfold noV at h
  rw[List.all_cons,Bool.and_eq_true]at h
  rw[List.map_cons,ih h.2]
  cases x<;>first|rfl|(have:=h.1;simp[isV]at this)
theorem rg_start(R:RepSt K H0 H σ τ)(h:noV τ=true)(kp:Kp Hs H):RG K H0 Hs H σ τ fun _=>False:=by
 have e:hidH H (fun _=>False)=H:=by funext b;exact hid_out fun z=>z
 refine⟨by rw[e];exact kp,by rw[e,drop_no h];exact R,fun i t v z=>?_,fun q g=>g.elim,fun q g=>g.elim⟩
 have:=noV_at i h
 rw[z]at this
 cases this
theorem RG.born{i:Nat}{t:T}{v:V}{G':Addr->Prop}(R:RG K H0 Hs H σ τ G)(S:Same H H')(hi:i < τ.length)(hg:∀q,G q->G' q)(hn:∀q,G' q->G q∨(H q=none/\∃o ws,H' q=some (.frz o (.lst ws))))(g:GRep K H' G' t v) :
  RG K H0 Hs H' (σ.set i (some v)) (sput τ i (.vat t v)) G':=by
 have S':Same (hidH H G) (hidH H' G'):=hid_mono S fun b z=>(hn b z).imp id fun q=>q.1
 have hlen:i < σ.length:=by have:=R.rep.len;unfold dropV at this;rw[List.length_map]at this;omega
 refine⟨R.kp.trans (.of S'),?_,fun j t' u e=>?_,fun q z=>?_,fun q z=>?_⟩
 ·have:=(R.rep.mono S').away (i:=i) (x:=some v)
  unfold dropV at this ⊢
  rw[map_sput]
  exact this
 ·by_cases hj:i=j
  ·subst hj
   rw[sget_same hi]at e
   cases e
   exact⟨List.getElem?_set_self hlen,g⟩
  ·rw[sget_ne hj]at e
   obtain⟨a,g'⟩:=R.vat j t' u e
   rw[List.getElem?_set_ne hj]
   exact⟨a,g'.like (.same S) (fun q o xs _ e=>S _ _ e) hg⟩
 ·rcases hn q z with z|z
  ·exact R.new q z
  ·exact R.same0.free z.1
 ·rcases hn q z with z|z
  ·obtain⟨o,ws,e⟩:=R.fz q z
   exact⟨o,ws,S _ _ e⟩
  ·exact z.2
end
def upApart(K:PySem.W.Frag)(H0:Hp)(w:WS):TS:=fun D σ H=>∃(Hs:Hp) (τ:List Slot) (D0:DT),RepG K H0 Hs H σ τ/\w D0 τ ∧
 (∀τ' σ' H',RepG K H0 Hs H' σ' τ'->D0.nx τ'->D.nx σ' H')/\(∀t v H',Same H0 H'->Rep K H' t v->D0.rt t->D.rt v H') ∧
 (∀τ' σ' H',RepG K H0 Hs H' σ' τ'->D0.bk τ'->D.bk σ' H')/\(∀τ' σ' H',RepG K H0 Hs H' σ' τ'->D0.ct τ'->D.ct σ' H')
def JGS(X:Cx)(st:Stmt)(w:WS):Prop:=PS X st (upApart X.K X.H₀ w)
def JGSs(X:Cx)(st:List Stmt)(w:WS):Prop:=PSs X st (upApart X.K X.H₀ w)
section
variable {X:Cx} {e b c:Expr} {es:List Expr} {wa wb w:WE} {ws:WA} {ua:WT} {t u:WS} {pos:Pos} {st:Stmt} {rest a d:List Stmt}
theorem jg_0:JGSs X [] sNext:=pss_of pss_nil fun D σ H ⟨Hs,τ,D0,R,hw,k,_⟩=>k τ σ H R hw
theorem jg_1(h:JGS X st t):JGSs X [st] t:=pss_of (pss_one h) fun D σ H z=>z
theorem jg_c(h1:JGS X st t)(h2:JGSs X rest u):JGSs X (st::rest) (sSeq t u):=pss_of (pss_cons h1 h2) fun D σ H ⟨Hs,τ,D0,R,hw,kn,kr,kb,kc⟩ =>
 ⟨Hs,τ,_,R,hw,fun τ' σ' H' R' q=>⟨Hs,τ',D0,R',q,kn,kr,kb,kc⟩,kr,kb,kc⟩
theorem jg_if(hc:JT X c ua)(ha:JGSs X a t)(hb:JGSs X d u):JGS X (.If c a d pos) (sIf ua t u):=ps_of (ps_if hc ha hb) fun D σ H ⟨Hs,τ,D0,⟨G,R⟩,hw,kn,kr,kb,kc⟩=>by
 refine⟨τ,_,R.weak,hw,fun k H1 S1 q=>?_⟩
 cases k with
 | true=>exact⟨Hs,τ,D0,⟨G,R.mono S1⟩,q.1 rfl,kn,kr,kb,kc⟩
 | false=>exact⟨Hs,τ,D0,⟨G,R.mono S1⟩,q.2 rfl,kn,kr,kb,kc⟩
theorem jg_ret(h:JE X e w):JGS X (.Return (some e) pos) (sRet w):=ps_of (ps_ret h) fun D σ H ⟨Hs,τ,D0,⟨G,R⟩,hw,_,k,_⟩=>⟨τ,_,R.weak,hw,fun t v H' S r q=>k t v H' (R.weak.same.trans S) r q⟩
theorem jg_ent(h:JGSs X rest t):JSs X rest (sEnt t):=pss_of h fun D σ H ⟨τ,D0,R,⟨nv,hw⟩,kn,kr,kb,kc⟩ =>
 ⟨H,τ,_,⟨_,rg_start R nv (.refl H)⟩,hw,fun τ' σ' H' ⟨G,R'⟩ q=>kn _ _ H' R'.kpH R'.drops q,kr,fun τ' σ' H' ⟨G,R'⟩ q=>kb _ _ H' R'.kpH R'.drops q,fun τ' σ' H' ⟨G,R'⟩ q=>kc _ _ H' R'.kpH R'.drops q⟩
abbrev NewL(H H':Hp)(N:Addr->Prop):Prop:=∀q,N q->H q=none/\∃o xs,H' q=some (.frz o (.lst xs))
def JGE(X:Cx)(e:Expr)(w:WE):Prop:=PE X e fun σ H Q=>∃τ Q0,RepSt X.K X.H₀ H σ τ/\w τ Q0/\∀t v H' (N:Addr->Prop),Same H H'->NewL H H' N->GRep X.K H' N t v->Q0 t->Q v H'
def JGA(X:Cx)(es:List Expr)(ws:WA):Prop:=PA X es fun σ H Q=>∃τ Q0,RepSt X.K X.H₀ H σ τ/\ws τ Q0/\∀ts vs H' (N:Addr->Prop),Same H H'->NewL H H' N->GReps X.K H' N ts vs->Q0 ts->Q vs H'
mutual
theorem grep_noL{K:PySem.W.Frag}{H:Hp}{G:Addr->Prop}:∀{t:T}{v:V},TL.noL t=true->Rep K H t v->GRep K H G t v
 | .non,v,_,h=>by rw[GRep];rw[rep_non]at h;exact h
 | .bl b,v,_,h=>by rw[GRep];rw[rep_bl]at h;exact h
 | .int i,v,_,h=>by rw[GRep];rw[rep_int]at h;exact h
 | .str x,v,_,h=>by rw[GRep];rw[rep_str]at h;exact h
 | .tup ts,v,n,h=>by
  rw[GRep]
  rw[rep_tup]at h
  obtain⟨p,vs,e,s,r⟩:=h
  exact⟨p,vs,e,s,grep_noLs (by simpa only [TL.noL] using n) r⟩
 | .lst ts,v,n,h=>by simp[TL.noL]at n
 | .dct,v,n,h=>by simp[TL.noL]at n
 | .exc _,v,n,h=>by simp[TL.noL]at n
 | .exf _ _ _,v,n,h=>by simp[TL.noL]at n
 | .dic _ _,v,n,h=>by simp[TL.noL]at n
theorem grep_noLs{K:PySem.W.Frag}{H:Hp}{G:Addr->Prop}:∀{ts:List T}{vs:List V},TL.noLs ts=true->Reps K H ts vs->GReps K H G ts vs
 | [],vs,_,h=>by rw[GReps];rw[reps_nil]at h;exact h
 | t::ts,vs,n,h=>by
  rw[GReps]
  rw[reps_cons]at h
  simp only[TL.noLs,Bool.and_eq_true]at n
  obtain⟨v,r,e,a,b⟩:=h
  exact⟨v,r,e,grep_noL n.1 a,grep_noLs n.2 b⟩
end
theorem jga_0:JGA X [] aNil:=fun pos pins s σ H Q I ⟨τ,Q0,R,hw,k⟩=>Calls.spliced_nil ⟨[],H,I,.nil,k [] [] H (fun _=>False) (.refl H) (fun q z=>z.elim) (by rw[GReps]) hw⟩
theorem jga_c(h1:JGE X e w)(h2:JGA X es ws)(hs:starEach (e::es) X.env=(false,eval e X.env)::starEach es X.env:=by exact star1 rfl):JGA X (e::es) (aCons w ws):=by
 intro pos pins s σ H Q I ⟨τ,Q0,R,hw,k⟩
 rw[hs]
 show wpAny _ _ (spliced ((false,eval e X.env)::backTo pos (starEach es X.env))) _ _ s
 refine Calls.spliced_cons (thn (h1 pins s σ H (fun v H'=>∃(t:T) (N:Addr->Prop),Same H H'/\NewL H H' N/\GRep X.K H' N t v/\ws τ fun ts=>Q0 (t::ts)) I ⟨τ,_,R,hw,fun t v H' N S n g q=>⟨t,N,S,n,g,q⟩⟩) fun u s1 ⟨x,H1,I1,r1,t,N,S1,n1,g1,q1⟩=>?_)
 refine thn (h2 pos pins s1 σ H1 (fun vs H'=>Q (x::vs) H') I1 ⟨τ,_,R.mono S1,q1,fun ts vs H' N' S2 n2 g2 q2=>?_⟩) fun us s2 ⟨xs,H2,I2,r2,q2⟩=>⟨x::xs,H2,I2,.cons r1 r2,q2⟩
 refine k (t::ts) (x::vs) H' (fun q=>N q∨N' q) (S1.trans S2) (fun q z=>?_) ?_ q2
 ·rcases z with z|z
  ·obtain⟨a,o,xs,b⟩:=n1 q z
   exact⟨a,o,xs,S2 _ _ b⟩
  ·obtain⟨a,b⟩:=n2 q z
   exact⟨S1.free a,b⟩
 ·rw[GReps]
  exact⟨x,vs,rfl,g1.like (.same S2) (fun q o xs _ e=>S2 _ _ e) fun q z=>.inl z,g2.like (.same (.refl H')) (fun q o xs _ e=>e) fun q z=>.inr z⟩
theorem greps_len{K:PySem.W.Frag}{H:Hp}{G:Addr->Prop}{ts:List T}{vs:List V}(h:GReps K H G ts vs):vs.length=ts.length:=h.reps.length
theorem jge_lst(h:JGA X es ws):JGE X (.List es pos) (wLst ws):=pe_of (pe_lstF h) fun σ H Q ⟨τ,Q0,R,hw,k⟩=>⟨τ,_,R,hw,fun ts vs H1 N S1 n g ⟨hl,q⟩ =>
 ⟨by rw[greps_len g];exact few hl,fun p o hp=>k _ _ _ (fun q=>N q∨q=p) (S1.trans (same_new hp _)) (fun q z=>by
  rcases z with z|z
  ·obtain⟨a,o',xs,b⟩:=n q z
   exact⟨a,o',xs,same_new hp _ _ _ b⟩
  ·rw[z]
   exact⟨S1.free hp,o,vs,upd_same⟩) (by
  rw[GRep]
  exact⟨p,vs,o,rfl,.inr rfl,upd_same,g.like (.same (same_new hp _)) (fun q o xs _ e=>same_new hp _ _ _ e) fun q z=>.inl z⟩) q⟩⟩
def sBornD(i:Nat)(w:WE):WS:=fun D τ=>i < τ.length/\w τ fun t=>∀v,D.nx (sput τ i (.vat t v))
theorem jg_born{i:Nat}{x:Str}{pos':Pos}(hN:X.N.Nodup)(hi:X.N[i]?=some x)(hx:Loc X.env.scope x)(he:JGE X e w)(hs:swapsWith e (some (.Name x pos')) pos.line X.env=pure false:=by rfl)
  (hf:X.fn x=true∨X.env.scope.names.lookup x=some .local:=by first|exact .inl rfl|exact .inr rfl|assumption):JGS X (.Assign [.Name x pos'] e pos) (sBornD i w) :=
 ps_of (ps_set hN hi hx he hs hf) fun D σ H ⟨Hs,τ,D0,⟨G,R⟩,⟨hl,hw⟩,kn,_⟩=>⟨τ,_,R.weak,hw,fun t v H' N S n g q=>kn _ _ H' ⟨fun q=>G q∨N q,R.born S hl (fun q z=>.inl z) (fun q z=>z.imp id fun m=>n q m) (g.like (.same (.refl H')) (fun q o xs _ e=>e) fun q z=>.inr z)⟩ (q v)⟩
end
section
variable {X:Cx} {e b:Expr} {pos:Pos}
end
structure SC(K:PySem.W.Frag)(H0 Hs H:Hp)(σ:St)(τ1:List Slot)(G:Addr->Prop)(i:Nat)(n:Nat)(H':Hp)(σ':St):Prop where
 kp:Kp Hs (hidH H' G)
 rep:RepSt K H0 (hidH H' G) σ' τ1
 out:∀b,¬ G b->H' b=H b
 fz:∀q,G q->∃o ws o0 ws0,H' q=some (.frz o (.lst ws))/\H q=some (.frz o0 (.lst ws0))/\ws.length<=ws0.length + n
 at_i:σ'[i]?=σ[i]?
section
variable {K:PySem.W.Frag} {H0 Hs H H':Hp} {σ σ':St} {τ1:List Slot} {G:Addr->Prop} {i n:Nat}
theorem rep_away_same{K:PySem.W.Frag}{H0 H:Hp}{σ:St}{τ:List Slot}{j:Nat}(R:RepSt K H0 H σ τ):RepSt K H0 H σ (sput τ j .no):=by
 have A:=R.away (i:=j) (x:=σ[j]?.getD none)
 have:σ.set j (σ[j]?.getD none)=σ:=by
  by_cases z:j < σ.length
  ·rw[List.getElem?_eq_getElem z]
   exact List.set_getElem_self z
  ·exact List.set_eq_of_length_le (by omega)
 rw[this]at A
 exact A
theorem dropV_dropV(τ:List Slot):dropV (dropV τ)=dropV τ:=by
 unfold dropV
 rw[List.map_map]
 refine List.map_congr_left fun s _=>?_
 cases s<;>rfl
end
section
variable {X:Cx} {e1 e2 e3:Expr} {pos:Pos}
end
end TL
end
section
namespace TL
open PySem PySem.Spec PyProof PyProof.Rows L2
section
variable {X:Cx} {e b a:Expr} {wa wb w:WE} {pos:Pos}
end
section
variable {K:PySem.W.Frag} {H0 H H':Hp} {d:Addr} {rs:List RL}
theorem RepSt.raw{σ:St}{τ:List Slot}{q:Addr}{ws ws':List V}(R:RepSt K H0 H σ τ)(hl:∀i,lone1 (sget τ i)=true)(hq:H q=some (.lst ws))(h0:H0 q=none):RepSt K H0 (upd H q (.lst ws')) σ τ:=by
 have k:=Kp.write hq (.lst ws')
 refine⟨fun b o h=>?_,R.len,fun j=>?_,R.apart⟩
 ·rw[upd_ne (fun z=>by rw[z,h0]at h;cases h)]
  exact R.same b o h
 ·have s:=R.slot j
  have l:=hl j
  cases e:sget τ j with
  | no=>trivial
  | val t=>rw[e]at s;obtain⟨v,e1,r⟩:=s;exact⟨v,e1,r.kp k⟩
  | vat t v=>rw[e]at s;exact⟨s.1,s.2.kp k⟩
  | own ts=>rw[e]at l;cases l
  | see ts=>rw[e]at l;cases l
  | dic ps=>rw[e]at l;cases l
  | owd _ _=>rw[e]at l;cases l
theorem lone_sput{τ:List Slot}{i:Nat}{t:T}(hl:∀i,lone1 (sget τ i)=true):∀j,lone1 (sget (sput τ i (.val t)) j)=true:=fun j=>by
 by_cases z:i=j
 ·subst z
  by_cases hi:i < τ.length
  ·rw[sget_same hi];rfl
  ·rw[sget_big (by rw[length_sput];omega)];rfl
 ·rw[sget_ne z];exact hl j
theorem lone_hide{τ:List Slot}{i:Nat}(hl:∀i,lone1 (sget τ i)=true):∀j,lone1 (sget (sput τ i .no) j)=true:=fun j=>by
 by_cases z:i=j
 ·subst z
  by_cases hi:i < τ.length
  ·rw[sget_same hi];rfl
  ·rw[sget_big (by rw[length_sput];omega)];rfl
 ·rw[sget_ne z];exact hl j
end
section
variable {X:Cx}
end
end TL
end
section
namespace TL
open PySem PySem.Spec PyProof.Rows L2
section
open Builtin Builtin.Str
variable {prog:Program} {w:World} {A:Around} {E:Value->Shared->Prop} {s:Shared} {x y:Str} {t u:Tok} {Q:Value->Shared->Prop}
end
section
variable {X:Cx} {e b c a:Expr} {es:List Expr} {wa wb w:WE} {ws:WA} {pos:Pos}
end
theorem fz_all{X:Cx}{pins:List (Addr×Obj)}{σ:St}{s:Shared}:∀{as:List (Addr×List V)}{H:Hp},(as.map (·.1)).Nodup->Inv X pins σ H s->(∀r∈as,H r.1=some (.lst r.2)/\X.H₀ r.1=none) →
  ∃Hf,Inv X pins σ Hf s/\(∀r∈as,∃o,Hf r.1=some (.frz o (.lst r.2)))/\(∀b,b∉as.map (·.1)->Hf b=H b)/\Kp H Hf/\∀{σ2:St}{s2:Shared}{H2:Hp},Inv X pins σ2 H2 s2->Same Hf H2->∃H3,Inv X pins σ2 H3 s2/\Same H H3
 | [],H,_,I,_=>⟨H,I,(fun r m=>by cases m),fun _ _=>rfl,.refl H,fun I2 S=>⟨_,I2,S⟩⟩
 | a::r,H,nd,I,h=>by
  rw[List.map_cons,List.nodup_cons]at nd
  obtain⟨ha,h0⟩:=h a List.mem_cons_self
  obtain⟨o,I1⟩:=Inv.freeze I ha
  obtain⟨Hf,I2,h1,h2,k2,th⟩:=fz_all nd.2 I1 fun x m=>by
   rw[upd_ne fun z=>nd.1 (by rw[← z];exact List.mem_map_of_mem m)]
   exact h x (List.mem_cons_of_mem _ m)
  refine⟨Hf,I2,fun x m=>?_,fun b nb=>?_,(Kp.write ha _).trans k2,fun {σ2 s2 H2} I3 S=>?_⟩
  ·rcases List.mem_cons.mp m with rfl|m
   ·exact⟨o,by rw[h2 x.1 nd.1];exact upd_same⟩
   ·exact h1 x m
  ·rw[List.map_cons,List.mem_cons]at nb
   rw[h2 b fun z=>nb (.inr z),upd_ne fun z=>nb (.inl z)]
  ·obtain⟨H3,I4,S4⟩:=th I3 S
   have hp:H3 a.1=some (.frz o (.lst a.2)):=S4 _ _ upd_same
   exact⟨_,Inv.unfreeze I4 hp h0,same_thaw ha S4⟩
theorem nodup_at{α:Type}:∀{l:List α}{n m:Nat}{a:α},l.Nodup->l[n]?=some a->l[m]?=some a->n=m
 | [],n,m,a,_,h,_=>by simp at h
 | x::l,0,0,a,_,_,_=>rfl
 | x::l,0,m + 1,a,nd,h1,h2=>by
  rw[List.nodup_cons]at nd
  simp only[List.getElem?_cons_zero,Option.some.injEq]at h1
  rw[List.getElem?_cons_succ]at h2
  rw[h1]at nd
  exact absurd (List.mem_of_getElem? h2) nd.1
 | x::l,n + 1,0,a,nd,h1,h2=>by
  rw[List.nodup_cons]at nd
  simp only[List.getElem?_cons_zero,Option.some.injEq]at h2
  rw[List.getElem?_cons_succ]at h1
  rw[h2]at nd
  exact absurd (List.mem_of_getElem? h1) nd.1
 | x::l,n + 1,m + 1,a,nd,h1,h2=>by
  rw[List.nodup_cons]at nd
  rw[List.getElem?_cons_succ]at h1 h2
  rw[nodup_at nd.2 h1 h2]
section
variable {K:PySem.W.Frag} {H0 H H':Hp} {p:Addr} {qs:List Addr} {ls:List (List T)}
end
section
variable {X:Cx}
end
section
open Builtin Builtin.Tuple
end
section
variable {X:Cx} {e b c a:Expr} {es:List Expr} {wa wb w:WE} {ws:WA} {pos:Pos}
end
section
variable {prog:Program} {w:World} {A:Around} {R:Result->Shared->Prop}
end
section
variable {X:Cx}
end
section
open KTD
variable {X:Cx} {b:Expr} {wb:WE} {pos p0:Pos}
end
end TL
end
section
namespace TL
open PySem PySem.Spec PyProof.Rows L2
def spGN(K:PySem.W.Frag)(n:Nat)(S:SpX):Sp:=fun vs H Q E=>∃(ts:List T) (Q0 R0:T->Prop),vs.length=n/\Reps K H ts vs/\S R0 ts Q0/\(∀t v H' (N:Addr->Prop),Same H H'->NewL H H' N->GRep K H' N t v->Q0 t->Q v H')/\∀v dx H',Same H H'->wishOf K R0 v dx H'->E v dx H'
structure FnGN(P:Program)(w:World)(K:PySem.W.Frag)(mg:Str->Option Value)(base:Heap)(k:Nat)(f:Addr)(fd:FuncData)(ps:List Str)(S:SpX):Prop where
 ok:FnOk P w K mg base (CXE P w) k f fd ps (spGN K ps.length S)
 len:∀R ts Q,S R ts Q->ts.length=ps.length
theorem FnGN.x{P:Program}{w:World}{K:PySem.W.Frag}{mg:Str->Option Value}{base:Heap}{k:Nat}{f:Addr}{fd:FuncData}{ps:List Str}{S:SpX}(F:FnGN P w K mg base k f fd ps S):FnX P w K mg base k f fd ps S :=
 ⟨⟨fun vs H Q E ⟨_,_,_,e,_⟩=>e,fun A outer s H args us vs Q E hr e0 hb hv ⟨ts,Q0,R0,e,r,hS,q,hE⟩=>F.ok.run A outer s H args us vs Q E hr e0 hb hv ⟨ts,Q0,R0,e,r,hS,fun t v H' N S1 _ g z=>q t v H' S1 g.rep z,hE⟩⟩,F.len⟩
def CalGN(P:Program)(w:World)(K:PySem.W.Frag)(mg:Str->Option Value)(base:Heap)(k:Nat)(x:Str)(ps:List Str)(S:SpX):Prop :=
 ∃f fd,FnGN P w K mg base k f fd ps S/\Binds K fd ps []/\PySem.W.keepIn K (.ref f)=true/\mg x=some (.ref f)
theorem CalGN.mk{P:Program}{w:World}{K:PySem.W.Frag}{mg:Str->Option Value}{base:Heap}{k:Nat}{x qual:Str}{ps:List Str}{S:SpX}{st:Stmt}{f:Addr}{fd:FuncData}(F:Fun K x qual st f fd)(m:mg x=some (.ref f))
  (b:Binds K fd ps []) (h:FnGN P w K mg base k f fd ps S):CalGN P w K mg base k x ps S:=⟨f,fd,h,b,F.kp,m⟩
theorem CalGN.x{P:Program}{w:World}{K:PySem.W.Frag}{mg:Str->Option Value}{base:Heap}{k:Nat}{x:Str}{ps:List Str}{S:SpX}(C:CalGN P w K mg base k x ps S):CalX P w K mg base k x ps S :=
 let ⟨f,fd,F,b,kp,m⟩:=C;⟨f,fd,F.x,b,kp,m⟩
section
variable {X:Cx} {a b c e:Expr} {es:List Expr} {wa wb w:WE} {ws:WA} {t u:WS} {pos:Pos} {st:Stmt} {rest:List Stmt}
theorem run_atG{k:Nat}{f:Addr}{fd:FuncData}{ps:List Str}{S:SpX}{pins:List (Addr×Obj)}{σ:St}{H:Hp}{s:Shared}{Q:VK}{us:List Value}{vs:List V}{ts:List T}{Q0 R0:T->Prop}{E:Value->Shared->Prop}(F:FnGN X.prog X.w X.K X.mg X.base k f fd ps S)(hr:Room k X.A)(hb:Binds X.K fd ps [])
  (hx:∀a C dx H' s',Fly X.prog X.w X.stack H s H' a (.ref C) s'->DAt s'.heap a dx->Same H H'->wishF X.K R0 C dx H'->E (.ref a) s')
  (I:Inv X pins σ H s) (r:Vals vs us) (rr:Reps X.K H ts vs) (hS:S R0 ts Q0) (q:∀t v H' (N:Addr->Prop),Same H H'->NewL H H' N->GRep X.K H' N t v->Q0 t->Q v H'):wpAny (model X.prog X.w) X.A (call (.ref f) us) (EP X pins σ Q) E s:=by
 have hl:us.length=ps.length:=by rw[← r.length,rr.length];exact F.len _ _ _ hS
 have hbb:=hb s us I.kIn (by simpa using hl)
 rw[List.append_nil]at hbb
 refine wpAny_call (codeAny_mono (F.ok.run X.A X.stack s H ⟨us,[]⟩ us vs Q (wishOf X.K R0) hr I.env0 hbb r ⟨ts,Q0,R0,by rw[r.length];exact hl,rr,hS,q,fun v dx H' _ z=>z⟩) fun res s' h=>?_)
 cases res with
 | error e =>
  obtain⟨a,C,dx,H',rfl,fl,da,S1,C',e1,h1⟩:=h
  cases e1
  exact hx a C dx H' s' fl da S1 h1
 | ok fl =>
  cases fl with
  | ret u=>exact I.after h
  | next=>exact False.elim h
  | brk=>exact False.elim h
  | cont=>exact False.elim h
theorem newL_up{H0 H H':Hp}{N:Addr->Prop}(S:Same H0 H)(n:NewL H H' N):NewL H0 H' N:=fun q z=>⟨S.free (n q z).1,(n q z).2⟩
theorem pe_callG{k:Nat}{ps:List Str}{S:SpX}{R:T->Prop}{x:Str}{p:Pos}(C:CalGN X.prog X.w X.K X.mg X.base k x ps S)(tk:Takes X R)(hr:Room k X.A)(hg:Gl X x)
  (ha:JA X (e::es) ws) (hdb:(x==("__debug__" : Str))=false) (he:starEach (e::es) X.env=(false,eval e X.env)::starEach es X.env)
  (hpl:(backTo pos (starEach es X.env)).any (·.1)=false):JGE X (.Call (.Name x p) (e::es) [] pos) (wCall (S R) ws):=by
 obtain⟨f,fd,F,hb,hk,hm⟩:=C
 intro pins s σ H Q I ⟨τ,Q0,R0,hw,k⟩
 refine wpAny_Call_Name_kw (ld_glob I hg hm ?_ hdb)
 refine PySem.W.callWith_K (h₀:=X.base) I.ok.mod.kin hk (thn (ha pos pins s σ H (fun vs H1=>∃ts,Same H H1/\Reps X.K H1 ts vs/\S R ts Q0) I ⟨τ,_,R0,hw,fun ts vs H1 S1 r q=>⟨ts,S1,r,q⟩⟩) fun us s1 ⟨vs,H1,I1,r,ts,S1,rr,q⟩=>⟨I1.kIn,?_⟩) he hpl
 exact run_atG F hr hb (fun a C dx H' s' fl da S2 h1=>tk.on pins σ H1 H' s1 s' a C dx I1 (R0.same.trans S1) fl da S2 h1) I1 r rr q fun t v H' N S2 n g q2=>k t v H' N (S1.trans S2) (newL_up S1 n) g q2
theorem jge_call{k:Nat}{ps:List Str}{S:SpX}{x:Str}{p:Pos}(C:CalGN X.prog X.w X.K X.mg X.base k x ps S)(hr:Room k X.A)(hg:Gl X x)
  (ha:JA X (e::es) ws) (hdb:(x==("__debug__" : Str))=false:=by decide) (he:starEach (e::es) X.env=(false,eval e X.env)::starEach es X.env:=by exact star1 rfl)
  (hpl:(backTo pos (starEach es X.env)).any (·.1)=false:=by exact stars rfl):JGE X (.Call (.Name x p) (e::es) [] pos) (wCall (S RF) ws):=by
 obtain⟨f,fd,F,hb,hk,hm⟩:=C
 intro pins s σ H Q I ⟨τ,Q0,R0,hw,k⟩
 refine wpAny_Call_Name_kw (ld_glob I hg hm ?_ hdb)
 refine PySem.W.callWith_K (h₀:=X.base) I.ok.mod.kin hk (thn (ha pos pins s σ H (fun vs H1=>∃ts,Same H H1/\Reps X.K H1 ts vs/\S RF ts Q0) I ⟨τ,_,R0,hw,fun ts vs H1 S1 r q=>⟨ts,S1,r,q⟩⟩) fun us s1 ⟨vs,H1,I1,r,ts,S1,rr,q⟩=>⟨I1.kIn,?_⟩) he hpl
 refine run_atG F hr hb (fun a C dx H' s' fl da S2 h1=>?_) I1 r rr q fun t v H' N S2 n g q2=>k t v H' N (S1.trans S2) (newL_up S1 n) g q2
 obtain⟨c,_,h1⟩:=h1
 cases dx with
 | none=>exact h1.elim
 | some d =>
  obtain⟨_,_,_,_,_,_,_,_,_,h1⟩:=h1
  exact h1.elim
def upN(K:PySem.W.Frag)(H0:Hp)(w:WS):TS:=fun D σ H=>∃(τ:List Slot) (D0:DT),RepSt K H0 H σ τ/\w D0 τ/\∀t v H' (N:Addr->Prop),Same H0 H'->NewL H0 H' N->GRep K H' N t v->D0.rt t->D.rt v H'
def JNs(X:Cx)(sts:List Stmt)(w:WS):Prop:=PSs X sts (upN X.K X.H₀ w)
theorem jn_c(h:JS X st t)(hr:JNs X rest u):JNs X (st::rest) (sSeq (sNoR t) u):=pss_of (pss_cons h hr) fun D σ H ⟨τ,D0,R,hw,k⟩ =>
 ⟨τ,_,R,hw,fun τ' σ' H' K1 R' q=>⟨τ',D0,R',q,k⟩,fun t v H' S r q=>q.elim,fun τ' σ' H' K1 R' q=>q.elim,fun τ' σ' H' K1 R' q=>q.elim⟩
theorem jn_ret(h:JGE X e w):JNs X [.Return (some e) pos] (sRet w):=pss_of (pss_one (ps_ret h)) fun D σ H ⟨τ,D0,R,hw,k⟩=>⟨τ,_,R,hw,fun t v H' N S n g q=>k t v H' N (R.same.trans S) (newL_up R.same n) g q⟩
theorem jn_call{k:Nat}{ps:List Str}{S:SpX}{R:T->Prop}{x:Str}{p rp:Pos}(C:CalGN X.prog X.w X.K X.mg X.base k x ps S)(tk:Takes X R)(hr:Room k X.A)(hg:Gl X x)
  (ha:JA X (e::es) ws) (hdb:(x==("__debug__" : Str))=false:=by decide) (he:starEach (e::es) X.env=(false,eval e X.env)::starEach es X.env:=by exact star1 rfl)
  (hpl:(backTo pos (starEach es X.env)).any (·.1)=false:=by exact stars rfl):JNs X [.Return (some (.Call (.Name x p) (e::es) [] pos)) rp] (sRet (wCall (S R) ws)):=jn_ret (pe_callG C tk hr hg ha hdb he hpl)
theorem OTs.greps{K:PySem.W.Frag}{H:Hp}{ts:List T}{vs:List V}{F:List Addr}(h:OTs K H (frzL H) ts vs F):GReps K H (· ∈ F) ts vs:=by
 induction h with
 | nil=>rw[GReps]
 | plain n r _ ih =>
  rw[GReps]
  exact⟨_,_,rfl,grep_noL n r,ih⟩
 | @list q us ts ws vs F l n r nq _ ih =>
  obtain⟨o,e⟩:=l
  rw[GReps]
  refine⟨_,_,rfl,?_,ih.like (.same (.refl H)) (fun q o xs _ e=>e) fun q m=>List.mem_cons_of_mem _ m⟩
  rw[GRep]
  exact⟨q,ws,o,rfl,List.mem_cons_self,e,grep_noLs n r⟩
def sRetW(is:List Nat):WS:=fun D τ=>ownsT τ is fun us=>D.rt (.tup us)
theorem jn_own{is:List Nat}{x1}{tpos rpos:Pos}(hnd:is.Nodup)(hfew:is.length<=1000)(h:PA X es (tVars is)):JNs X [.Return (some (.Tuple es x1 tpos)) rpos] (sRetW is):=by
 have pe:PE X (.Tuple es x1 tpos) (fun σ H Q=>∃(τ:List Slot) (Q0:List T->Prop),RepSt X.K X.H₀ H σ τ/\ownsT τ is Q0/\∀us v H' (N:Addr->Prop),Same X.H₀ H'->NewL X.H₀ H' N->GRep X.K H' N (.tup us) v->Q0 us->Q v H'):=by
  intro pins s σ H Q I ⟨τ,Q0,R,hw,k⟩
  obtain⟨us,vs',F',ot,hF,q0,hl,hv⟩:=owns_at R hnd hw
  refine thn (pe_tup (x1:=x1) (pos:=tpos) h pins s σ H (fun v H1=>∃p,v=.ref p/\Same H H1/\H1 p=some (.tup vs')) I (hv H _ ⟨by rw[hl];exact few hfew,fun p hp=>⟨p,rfl,same_new hp _,upd_same⟩⟩)) fun u s1 ⟨y,H1,I1,ry,p,e1,S1,hp⟩=>?_
  subst e1
  have ot1:OTs X.K H1 (rawL H1) us vs' F':=ot.like (.same S1) fun b ws _ z=>S1 _ _ z
  obtain⟨H2,I2,ot2,e2⟩:=OTs.freeze ot1 I1
  have hf:∀q∈F',X.H₀ q=none:=fun q m=>(hF q m).1
  have S2:Same X.H₀ H2:=fun b o z=>by
   rw[e2 b fun m=>by rw[hf b m]at z;cases z]
   exact S1 b o (R.same b o z)
  have np:p∉F':=fun m=>by
   obtain⟨ws,z⟩:=ot1.lists p m
   have z':H1 p=some (.lst ws):=z
   rw[hp]at z'
   cases z'
  refine⟨.ref p,H2,I2,ry,k us _ H2 (· ∈ F') S2 (fun q m=>⟨hf q m,?_⟩) ?_ q0⟩
  ·obtain⟨ws,o,z⟩:=ot2.lists q m
   exact⟨o,ws,z⟩
  ·rw[GRep]
   exact⟨p,vs',rfl,SqT.of (by rw[e2 p np];exact hp),ot2.greps⟩
 exact pss_of (pss_one (ps_ret pe)) fun D σ H ⟨τ,D0,R,hw,k⟩=>⟨τ,_,R,hw,fun us v H' N S n g q=>k _ v H' N S n g q⟩
theorem jsetcXO{R:T->Prop}{elt target iter:Expr}{ifs:List Expr}{scope sc0:Scope}{tn N0:List Str}{fr:List (Str×Nat)}{wi:WI}{g:TGt}{ut:WT}{we:WE}{i:Nat}{x:Str}{pos' spos:Pos}(hN:X.N.Nodup)(hiN:X.N[i]?=some x)(hx:Loc X.env.scope x)
  (hsc:X.env.scope=sc0) (hN0:X.N=N0) (hc:X.calm=true) (tkc:TakesC X R)
  (hi:JI X target iter wi) (hk:scope.kind=.function) (hk0:sc0.kind=.function)
  (hnames:(scope.names.all fun x=>x.2 != .local||scope.names.lookup x.1==some .local)=true) (hcell:(scope.names.all fun x=>x.2 != .cell)=true)
  (hfree:(scope.names.all fun x=>x.2 != .free||sc0.names.lookup x.1==some .cell)=true)
  (hfr:(fr.all fun p=>(sc0.names.lookup p.1==some .cell&&scope.names.lookup p.1==some .free)&&N0[p.2]?==some p.1)=true)
  (hg:∀cl C s3 H2 ex,JG (compCx X (tn++fr.map (·.1)) scope cl C s3 H2 ex) target g) (hu:∀cl C s3 H2 ex,JTs (compCx X (tn++fr.map (·.1)) scope cl C s3 H2 ex) ifs ut)
  (he:∀cl C s3 H2 ex E0,TakesOn ((compCx X (tn++fr.map (·.1)) scope cl C s3 H2 ex).wish E0) R->JE ((compCx X (tn++fr.map (·.1)) scope cl C s3 H2 ex).wish E0) elt we)
  (hs:∀x,foldedSetIterable iter X.env x=pure x:=by intro _;rfl)
  (hsw:swapsWith (.ListComp elt [⟨target,iter,ifs,0⟩] scope pos) (some (.Name x pos')) spos.line X.env=pure true:=by rfl)
  (hf:X.fn x=true∨X.env.scope.names.lookup x=some .local:=by first|exact .inl rfl|exact .inr rfl|assumption) :
  JS X (.Assign [.Name x pos'] (.ListComp elt [⟨target,iter,ifs,0⟩] scope pos) spos) (sOwnC i (wComp wi g ut we tn.length (fr.map (·.2)))):=by
 intro pins s σ H D I ⟨τ,D0,R0,hw,k,_⟩
 rw[exec_Assign_Name_used _ _ _ _ hsw]
 refine wpAny_bind (wpAny_standAt (wpAny_bind ?_))
 rw[arm_evalThenUse_ListComp]
 dsimp only
 refine wpAny_bind (wpAny_mono (comp_coreX (QQ:=fun _ s'=>SP X pins D .next s') hsc hN0 hc tkc hi.c hk hk0 hnames hcell hfree hfr hg hu he hs (use:=some (assign (.Name x pos') X.env)) I R0 hw fun s6 H6 Da C m6 t f I6 fp hn S r q ex=>?_) (fun _ s' h=>wpAny_pure (wpAny_pure h)) fun _ _ z=>z)
 obtain⟨H5,o5,vs,ts,rfl,h5,S5,rfl,rr⟩:=ex
 obtain⟨oC,es,ep,hoC,hdC,hrC⟩:=id hn
 have Ip:=I6.pinned (fp:=[C]) (fun b hb=>by rw[List.mem_singleton.mp hb];exact fp) fun b hb=>by
  rw[List.mem_singleton.mp hb]
  exact⟨oC,hoC,fun v z=>by rw[hdC]at z;cases z⟩
 have gn:=pg_name (pos:=pos') hN hiN hx hf _ s6 σ (upd H5 Da (.frz o5 (.lst vs))) (.ref Da) (.ref Da) (fun σ' H'=>σ'=σ.set i (some (.ref Da))/\H'=upd H5 Da (.frz o5 (.lst vs))) Ip rfl ⟨rfl,rfl⟩
 refine wpAny_mono gn (fun _ s7 h7=>?_) fun _ _ z=>z
 obtain⟨σ7,H7,I7,rfl,rfl⟩:=h7
 have pC:=(I7.pin (C,oC) (List.mem_append_right _ (List.mem_append_right _ (mem_pinsAt (List.mem_singleton.mpr rfl) hoC)))).1
 refine⟨m6,⟨oC,es,ep,pC,hdC,hrC⟩,fun h8 hs8=>?_⟩
 obtain⟨g1,g2,g3,g4,g5,g6⟩:=fp
 have I8:Inv X pins (σ.set i (some (.ref Da))) (upd H5 Da (.frz o5 (.lst vs))) s7:=I7.pins_of fun p hp=>I7.pin p (List.mem_append_right _ (List.mem_append_left _ hp))
 have I9:=I8.turned (t':=s7.toks) (it:=C) (h':=h8) (fun b o hb e=>(hs8.2 b hb).trans e) g1 g2 g4 g5 g6
 have I10:=Inv.unfreeze I9 upd_same (R0.same.free (S5.free h5))
 rw[upd_upd]at I10
 exact⟨_,_,I10,k _ _ _ (.of (S5.trans (same_new h5 _))) ((R0.mono S5).putOwn h5 rr) q⟩
end
theorem fnGN{P:Program}{w:World}{K:PySem.W.Frag}{mg:Str->Option Value}{base:Heap}{x qual:Str}{st:Stmt}{f:Addr}{fd:FuncData}{N ps:List Str}{k:Nat}{S:SpX}{W:(T->Prop)->WS}(F:Fun K x qual st f fd)(SC:FnScope N ps (defScope st))
  (hlen:∀R ts Q,S R ts Q->ts.length=ps.length)
  (hbody:∀(R:T->Prop)(cdv:Value)(A:Around)(outer:List Env)(s:Shared)(H:Hp)(E:XK),Room k (A.deeper (envOfC qual (defScope st) s.heap.objs.size f cdv))->Takes (cxOf (CXE P w) P w K mg base N qual (defScope st) f cdv A outer s H E) R->TakesC (cxOf (CXE P w) P w K mg base N qual (defScope st) f cdv A outer s H E) R →
   JNs (cxOf (CXE P w) P w K mg base N qual (defScope st) f cdv A outer s H E) (defBody st) (W R))
  (hw:∀R ts Q,S R ts Q->W R {nx:=fun _=>False,rt:=Q} (startT N.length ts)):FnGN P w K mg base (k + 1) f fd ps S:=by
 refine⟨?_,hlen⟩
 obtain⟨oc,od,kV,doc,pm,an,cdv,ct,osl,rfl,lk,hcd⟩:=F.ex
 refine fn_of lk hcd SC (fun vs H Q E ⟨_,_,_,e,_⟩=>e) fun A outer s H vs Q E hr h=>?_
 obtain⟨ts,Q0,R0,e,r,hS,q,hE⟩:=h
 exact⟨_,hbody R0 cdv A outer s H E hr (takes_def hE) (takesC_def hE),startT N.length ts,{nx:=fun _=>False,rt:=Q0},repSt_start r,hw R0 ts Q0 hS,fun t v H' N S n g z=>q t v H' N S n g z⟩
section
variable {X:Cx} {pos:Pos}
theorem ps_clr{j:Nat}{y:Str}{p2 apos cpos:Pos}(hw:PE X (.Name y p2) (tVar j)) (hsw:swapsWith (.Call (.Attribute (.Name y p2) "clear" apos) [] [] cpos) none pos.line X.env=pure false:=by rfl)
  (hbase:attributeBase (.Name y p2) "clear" X.env (eval (.Name y p2) X.env)=eval (.Name y p2) X.env:=by rfl) (hline:(apos.endLine==cpos.line)=true:=by rfl) :
  PS X (.Expr (.Call (.Attribute (.Name y p2) "clear" apos) [] [] cpos) pos) (fun D σ H=>∃q ws o,σ[j]?=some (some (.ref q))/\H q=some (.frz o (.lst ws))/\X.H₀ q=none/\∀o',D.nx σ (upd H q (.frz o' (.lst [])))) :=
 ps_of (ps_expr (pe_bm0 PySem.F.plainAttrs_list PySem.F.slot_list_clear PySem.F.type_list_clear mt_clearF hw hbase hline) hsw) fun D σ H ⟨q,ws,o,e1,e2,e3,k⟩=>⟨.ref q,e1,.inl ⟨rfl,ws,.inl (.inr ⟨o,e2⟩)⟩,q,ws,o,rfl,rfl,e2,e3,k⟩
end
structure SC3(K:PySem.W.Frag)(H0 Hs H:Hp)(τ1:List Slot)(G:Addr->Prop)(p:Addr)(W:List V)(H':Hp)(σ':St):Prop where
 kp:Kp Hs (hidH H' G)
 rep:RepSt K H0 (hidH H' G) σ' τ1
 out:∀b,¬ G b->H' b=H b
 fz:∀q,G q->∃o ws,H' q=some (.frz o (.lst ws))
 fz0:∀q,G q->∃o ws,H q=some (.frz o (.lst ws))
 ip:∃o ws,H' p=some (.frz o (.lst ws))/\(ws=W∨ws=[])
section
variable {K:PySem.W.Frag} {H0 Hs H H':Hp} {σ':St} {τ1:List Slot} {G:Addr->Prop} {p:Addr} {W:List V}
theorem SC3.like(S:SC3 K H0 Hs H τ1 G p W H' σ'):LikeT K H H':=LikeT.but (F:=G) (fun q g=>.inr (S.fz0 q g)) S.out
theorem SC3.clr{q:Addr}{o':Obj}(S:SC3 K H0 Hs H τ1 G p W H' σ')(g:G q):SC3 K H0 Hs H τ1 G p W (upd H' q (.frz o' (.lst []))) σ':=by
 have hh:hidH (upd H' q (.frz o' (.lst []))) G=hidH H' G:=hid_upd g
 refine⟨by rw[hh];exact S.kp,by rw[hh];exact S.rep,fun b nb=>?_,fun b gb=>?_,S.fz0,?_⟩
 ·rw[upd_ne fun z=>nb (by rw[z];exact g)]
  exact S.out b nb
 ·by_cases z:b=q
  ·subst z
   exact⟨o',[],upd_same⟩
  ·rw[upd_ne z]
   exact S.fz b gb
 ·by_cases z:p=q
  ·subst z
   exact⟨o',[],upd_same,.inr rfl⟩
  ·rw[upd_ne z]
   exact S.ip
theorem SC3.set{j:Nat}{x:Option V}(S:SC3 K H0 Hs H τ1 G p W H' σ')(h0:sget τ1 j=.no):SC3 K H0 Hs H τ1 G p W H' (σ'.set j x):=by
 have:=S.rep.away (i:=j) (x:=x)
 rw[show sput τ1 j .no=τ1 by rw[← h0];exact sput_self τ1 j]at this
 exact⟨S.kp,this,S.out,S.fz,S.fz0,S.ip⟩
end
def Tup3(K:PySem.W.Frag)(H:Hp)(G:Addr->Prop)(v:V):Prop:=∃a vs,v=.ref a/\SqT K H a vs/\vs.length<=1000/\∀x∈vs,∃q,x=.ref q/\G q
theorem tup3_of{K:PySem.W.Frag}{H:Hp}{G:Addr->Prop}{us:List T}{v:V}(al:allL us=true)(hl:us.length<=1000)(g:GRep K H G (.tup us) v):Tup3 K H G v:=by
 rw[GRep]at g
 obtain⟨p,vs,rfl,sq,gs⟩:=g
 refine⟨p,vs,rfl,sq,by rw[gs.reps.length];exact hl,?_⟩
 clear sq hl
 induction us generalizing vs with
 | nil =>
  rw[GReps]at gs
  subst gs
  intro x hx
  cases hx
 | cons t r ih =>
  rw[GReps]at gs
  obtain⟨x,xs,rfl,gx,gs⟩:=gs
  cases t<;>first|(simp[allL]at al)|skip
  rename_i ls
  rw[GRep]at gx
  obtain⟨q,ws,o,rfl,gq,_,_⟩:=gx
  intro y hy
  rcases List.mem_cons.mp hy with rfl|hy
  ·exact⟨q,rfl,gq⟩
  ·exact ih (by simpa [allL] using al) xs gs y hy
section
variable {X:Cx} {pos:Pos}
theorem ps_scrap3{i j1 j2:Nat}{x y1 y2:Str}{a1 a2 a3 b1 b2 b3 c1 c2 c3 c4:Pos}(hp:PassesOwn (model X.prog X.w) X.A X.env X.xe)(hc:X.calm=true)(hN:X.N.Nodup)(h1:X.N[j1]?=some y1)(l1:Loc X.env.scope y1)(h2:X.N[j2]?=some y2)(l2:Loc X.env.scope y2)
  (v0:PE X (.Name x a2) (tVar i)) (v1:PE X (.Name y1 b2) (tVar j1)) (B:PS X (.Expr (.Call (.Attribute (.Name y2 c1) "clear" c2) [] [] c3) c4) (fun D σ H=>∃q ws o,σ[j2]?=some (some (.ref q))/\H q=some (.frz o (.lst ws))/\X.H₀ q=none/\∀o',D.nx σ (upd H q (.frz o' (.lst [])))))
  (f1:X.fn y1=true∨X.env.scope.names.lookup y1=some .local) (f2:X.fn y2=true∨X.env.scope.names.lookup y2=some .local)
  (s1:∀z,foldedSetIterable (.Name x a2) X.env z=pure z) (s2:∀z,foldedSetIterable (.Name y1 b2) X.env z=pure z) :
  PS X (.For (.Name y1 a1) (.Name x a2) [.For (.Name y2 b1) (.Name y1 b2) [.Expr (.Call (.Attribute (.Name y2 c1) "clear" c2) [] [] c3) c4] [] b3] [] a3) (fun D σ H=>∃Hs τ1 G p W,σ[i]?=some (some (.ref p))/\G p/\(j1≠j2/\sget τ1 j1=.no/\sget τ1 j2=.no/\j1 < τ1.length/\j2 < τ1.length)/\(∃o,H p=some (.frz o (.lst W)))/\(∀q,G q->X.H₀ q=none)/\(∀v∈W,Tup3 X.K H G v)/\SC3 X.K X.H₀ Hs H τ1 G p W H σ/\∀σ' H',SC3 X.K X.H₀ Hs H τ1 G p W H' σ'->D.nx σ' H'):=by
 refine ps_of (ps_for hp hc (pi_list v0) (pg_name hN h1 l1 f1) (pss_one (ps_for hp hc (pi_tup v1) (pg_name hN h2 l2 f2) (pss_one B) s2)) s1) fun D σ H ⟨Hs,τ1,G,p,W,ev,Gp,⟨n12,t1,t2,k1,k2⟩,⟨o0,hpW⟩,new,hW,S0,kn⟩=>?_
 refine⟨.ref p,ev,p,rfl,⟨W,.inl (.inr ⟨o0,hpW⟩)⟩,fun n m σ' H'=>m=W.length - n/\SC3 X.K X.H₀ Hs H τ1 G p W H' σ',⟨W.length,by simp,S0⟩,?_⟩
 rintro n m σ' H' ⟨rfl,S⟩
 obtain⟨o,ws,hp',hws⟩:=S.ip
 by_cases hlt:n < ws.length
 ·refine .inr ?_
  have ew:ws=W:=by
   rcases hws with e|e
   ·exact e
   ·rw[e]at hlt;simp at hlt
  subst ew
  have en:ws[n]?=some ws[n]:=List.getElem?_eq_getElem hlt
  obtain⟨a,vs,ea,sq,lv,hv⟩:=hW _ (List.getElem_mem hlt)
  rw[ea]at en
  refine⟨⟨ws,_,.inl (.inr ⟨o,hp'⟩),en⟩,fun σ2 H2=>SC3 X.K X.H₀ Hs H τ1 G p ws H2 σ2,fun σ2 H2 z=>⟨ws.length - (n + 1),by omega,rfl,z⟩,fun x H3 ⟨eH,hx⟩=>?_⟩
  subst eH
  have ex:=hx ws (.inl (.inr ⟨o,hp'⟩))
  rw[en]at ex
  cases ex
  have S1:=S.set (x:=some (.ref a)) t1
  have lσ:σ'.length=τ1.length:=S.rep.len.symm
  refine⟨.ref a,List.getElem?_set_self (by omega),a,rfl,⟨vs,S.like _ _ sq⟩,fun n2 m2 σ2 H2=>m2=vs.length - n2/\SC3 X.K X.H₀ Hs H τ1 G p ws H2 σ2,⟨vs.length,by simp,S1⟩,?_⟩
  rintro n2 m2 σ2 H2 ⟨rfl,S2⟩
  by_cases hl2:n2 < vs.length
  ·refine .inr ?_
   have e2:vs[n2]?=some vs[n2]:=List.getElem?_eq_getElem hl2
   obtain⟨q,eq,gq⟩:=hv _ (List.getElem_mem hl2)
   rw[eq]at e2
   refine⟨⟨vs,_,S2.like _ _ sq,e2⟩,fun σ3 H3=>SC3 X.K X.H₀ Hs H τ1 G p ws H3 σ3,fun σ3 H3 z=>⟨vs.length - (n2 + 1),by omega,rfl,z⟩,fun x H4 ⟨eH,hx⟩=>?_⟩
   subst eH
   have ex:=hx vs (S2.like _ _ sq)
   rw[e2]at ex
   cases ex
   obtain⟨oq,wq,hq⟩:=S2.fz q gq
   have lσ2:σ2.length=τ1.length:=S2.rep.len.symm
   exact⟨q,wq,oq,List.getElem?_set_self (by omega),hq,new q gq,fun o'=>(S2.set (x:=some (.ref q)) t2).clr gq⟩
  ·exact .inl ⟨⟨vs,S2.like _ _ sq,by omega⟩,S2⟩
 ·exact .inl ⟨⟨ws,.inl (.inr ⟨o,hp'⟩),by omega⟩,kn σ' H' S⟩
end
section
variable {X:Cx} {c:Expr} {u:WT} {t:WS} {pos:Pos} {rest:List Stmt}
theorem ps_appV{i j:Nat}{x y:Str}{px py apos cpos:Pos}(hv:PE X (.Name x px) (tVar i))(he:PE X (.Name y py) (tVar j))
  (hs:swapsWith (.Call (.Attribute (.Name x px) "append" apos) [.Name y py] [] cpos) none pos.line X.env=pure false:=by rfl)
  (hbase:attributeBase (.Name x px) "append" X.env (eval (.Name x px) X.env)=eval (.Name x px) X.env:=by rfl)
  (hfew:((backTo cpos (starEach [.Name y py] X.env)).all (fun x=>!x.1)&&(backToKw cpos (keywordEach [] X.env)).all (fun x=>x.1.isSome)
   && decide (([.Name y py]:List Expr).length + ([]:List Keyword).length + (if ([]:List Keyword).isEmpty then 0 else 1) < 30))=true:=by rfl)
  (hline:(apos.endLine==cpos.line)=true:=by rfl) (hst:starEach [.Name y py] X.env=(false,eval (.Name y py) X.env)::starEach [] X.env:=by rfl) (hplain:(backTo cpos (starEach [] X.env)).any (·.1)=false:=by rfl) :
  PS X (.Expr (.Call (.Attribute (.Name x px) "append" apos) [.Name y py] [] cpos) pos) (fun D σ H=>∃q ws o v,σ[i]?=some (some (.ref q))/\H q=some (.frz o (.lst ws))/\X.H₀ q=none/\ws.length < sizeLine/\σ[j]?=some (some v)/\∀o',D.nx σ (upd H q (.frz o' (.lst (ws++[v]))))) :=
 ps_of (ps_expr (pe_bm PySem.F.plainAttrs_list PySem.F.slot_list_append PySem.F.type_list_append mt_appendF hv (pa_cons he pa_nil hst) hbase hfew hline hst hplain) hs) fun D σ H ⟨q,ws,o,v,e1,e2,e3,e4,e5,k⟩ =>
  ⟨.ref q,e1,.inl ⟨rfl,ws,.inl (.inr ⟨o,e2⟩)⟩,v,e5,q,ws,v,o,rfl,rfl,e2,e3,e4,k⟩
def tup3B:T->Prop
 | .tup us=>allL us=true/\us.length<=1000
 | _=>False
def sScrapM(i j j1 j2:Nat)(u:WT)(t:WS):WS:=fun D τ=>(j1≠j2/\j1 < τ.length/\j2 < τ.length)/\(match sget τ i with | .vat (.lst ts) _=>ts.length<=900/\∀x∈ts,tup3B x|_=>False) ∧
 u τ fun k=>(k=true->match sget τ j with | .vat x _=>tup3B x|_=>False)/\t D (sput (sput (dropV τ) j1 .no) j2 .no)
theorem tup3B_of{K:PySem.W.Frag}{H:Hp}{G:Addr->Prop}{x:T}{v:V}(h:tup3B x)(g:GRep K H G x v):Tup3 K H G v:=by
 cases x<;>first|exact h.elim|skip
 exact tup3_of h.1 h.2 g
theorem Tup3.like{K:PySem.W.Frag}{H H':Hp}{G:Addr->Prop}{v:V}(h:Tup3 K H G v)(k:LikeT K H H'):Tup3 K H' G v:=let ⟨a,vs,e,sq,l,q⟩:=h;⟨a,vs,e,k _ _ sq,l,q⟩
theorem greps_mem{K:PySem.W.Frag}{H:Hp}{G:Addr->Prop}:∀{ts:List T}{vs:List V},GReps K H G ts vs->(∀x∈ts,tup3B x)->∀v∈vs,Tup3 K H G v
 | [],vs,h,_=>by
  rw[GReps]at h
  subst h
  intro v hv
  cases hv
 | x::ts,vs,h,hx=>by
  rw[GReps]at h
  obtain⟨v,r,rfl,a,b⟩:=h
  intro w hw
  rcases List.mem_cons.mp hw with rfl|hw
  ·exact tup3B_of (hx x List.mem_cons_self) a
  ·exact greps_mem b (fun y hy=>hx y (List.mem_cons_of_mem _ hy)) w hw
theorem jg_scrapM{i j j1 j2:Nat}{x y y1 y2:Str}{px py apos cpos epos ipos a1 a2 a3 b1 b2 b3 c1 c2 c3 c4:Pos}(hc:JT X c u)
  (A:PS X (.Expr (.Call (.Attribute (.Name x px) "append" apos) [.Name y py] [] cpos) epos) (fun D σ H=>∃q ws o v,σ[i]?=some (some (.ref q))/\H q=some (.frz o (.lst ws))/\X.H₀ q=none/\ws.length < sizeLine/\σ[j]?=some (some v)/\∀o',D.nx σ (upd H q (.frz o' (.lst (ws++[v]))))))
  (hp:PassesOwn (model X.prog X.w) X.A X.env X.xe) (hcl:X.calm=true) (hN:X.N.Nodup) (h1:X.N[j1]?=some y1) (l1:Loc X.env.scope y1) (h2:X.N[j2]?=some y2) (l2:Loc X.env.scope y2)
  (v0:PE X (.Name x a2) (tVar i)) (v1:PE X (.Name y1 b2) (tVar j1)) (B:PS X (.Expr (.Call (.Attribute (.Name y2 c1) "clear" c2) [] [] c3) c4) (fun D σ H=>∃q ws o,σ[j2]?=some (some (.ref q))/\H q=some (.frz o (.lst ws))/\X.H₀ q=none/\∀o',D.nx σ (upd H q (.frz o' (.lst []))))) (hr:JGSs X rest t)
  (f1:X.fn y1=true∨X.env.scope.names.lookup y1=some .local:=by first|exact .inl rfl|exact .inr rfl|assumption) (f2:X.fn y2=true∨X.env.scope.names.lookup y2=some .local:=by first|exact .inl rfl|exact .inr rfl|assumption)
  (s1:∀z,foldedSetIterable (.Name x a2) X.env z=pure z:=by intro _;rfl) (s2:∀z,foldedSetIterable (.Name y1 b2) X.env z=pure z:=by intro _;rfl) :
  JGSs X (.If c [.Expr (.Call (.Attribute (.Name x px) "append" apos) [.Name y py] [] cpos) epos] [] ipos :: .For (.Name y1 a1) (.Name x a2) [.For (.Name y2 b1) (.Name y1 b2) [.Expr (.Call (.Attribute (.Name y2 c1) "clear" c2) [] [] c3) c4] [] b3] [] a3::rest) (sScrapM i j j1 j2 u t):=by
 refine pss_of (pss_cons (ps_if hc (pss_one A) pss_nil) (pss_cons (ps_scrap3 hp hcl hN h1 l1 h2 l2 v0 v1 B f1 f2 s1 s2) hr)) fun D σ H ⟨Hs,τ,D0,⟨G,R⟩,⟨⟨n12,k1,k2⟩,hi,hw⟩,kn,kr,kb,kc⟩=>?_
 cases own:sget τ i with
 | vat ti v =>
  rw[own]at hi
  cases ti with
  | lst ts =>
   obtain⟨l9,ht⟩:=hi
   refine⟨τ,_,R.weak,hw,fun k H1 S1 ⟨hk,q⟩=>?_⟩
   have R1:=R.mono S1
   obtain⟨ev,g⟩:=R1.vat i _ v own
   rw[GRep]at g
   obtain⟨p,W,o,rfl,Gp,hpW,gs⟩:=g
   have lW:W.length=ts.length:=gs.reps.length
   have tW:=greps_mem gs ht
   have ld:(dropV τ).length=τ.length:=by unfold dropV;rw[List.length_map]
   obtain⟨τ1,hτ⟩:∃x,x=sput (sput (dropV τ) j1 .no) j2 .no:=⟨_,rfl⟩
   have t1:sget τ1 j1=.no:=by rw[hτ,sget_ne (Ne.symm n12),sget_same (by rw[ld];exact k1)]
   have t2:sget τ1 j2=.no:=by rw[hτ];exact sget_same (by rw[length_sput,ld];exact k2)
   have lt:τ1.length=τ.length:=by rw[hτ,length_sput,length_sput,ld]
   have d1:dropV τ1=τ1:=by
    rw[hτ]
    have:=dropV_dropV τ
    unfold dropV at this ⊢
    rw[map_sput,map_sput,this]
    rfl
   rw[← hτ]at q
   have fin:∀(Hb:Hp)(W':List V) σ' H',SC3 X.K X.H₀ Hs Hb τ1 G p W' H' σ'->upApart X.K X.H₀ t D σ' H':=fun Hb W' σ' H' S=>by
    refine⟨Hs,τ1,D0,⟨G,S.kp,by rw[d1];exact S.rep,fun j t v z=>?_,R.new,S.fz⟩,q,kn,kr,kb,kc⟩
    have sg:sget (dropV τ1) j=drop1 (sget τ1 j):=sget_map rfl τ1 j
    rw[d1,z]at sg
    cases sg
   cases k with
   | false =>
    show ite _ _ _
    rw[if_neg (by decide)]
    exact⟨Hs,τ1,G,p,W,ev,Gp,⟨n12,t1,t2,by omega,by omega⟩,⟨o,hpW⟩,R.new,tW,⟨R1.kp,by rw[hτ];exact rep_away_same (rep_away_same R1.rep),fun _ _=>rfl,R1.fz,R1.fz,⟨o,W,hpW,.inl rfl⟩⟩,fin H1 W⟩
   | true =>
    show ite _ _ _
    rw[if_pos rfl]
    have hj:=hk rfl
    cases ownj:sget τ j with
    | vat tj vj =>
     rw[ownj]at hj
     obtain⟨ej,gj⟩:=R1.vat j _ vj ownj
     have tj3:=tup3B_of hj gj
     refine⟨p,W,o,vj,ev,hpW,R.new p Gp,few (by omega),ej,fun o'=>?_⟩
     have lk:LikeT X.K H1 (upd H1 p (.frz o' (.lst (W++[vj])))):=LikeT.but (F:=(·=p)) (fun b m=>.inr ⟨o,W,by rw[m];exact hpW⟩) fun b m=>upd_ne m
     have hh:hidH (upd H1 p (.frz o' (.lst (W++[vj])))) G=hidH H1 G:=hid_upd Gp
     have fz:∀q,G q->∃o2 ws,(upd H1 p (.frz o' (.lst (W++[vj])))) q=some (.frz o2 (.lst ws)):=fun q gq=>by
      by_cases z:q=p
      ·subst z;exact⟨o',_,upd_same⟩
      ·rw[upd_ne z];exact R1.fz q gq
     refine⟨Hs,τ1,G,p,W++[vj],ev,Gp,⟨n12,t1,t2,by omega,by omega⟩,⟨o',upd_same⟩,R.new,fun w hw=>?_,⟨by rw[hh];exact R1.kp,by rw[hh,hτ];exact rep_away_same (rep_away_same R1.rep),fun _ _=>rfl,fz,fz,⟨o',_,upd_same,.inl rfl⟩⟩,fin _ _⟩
     rcases List.mem_append.mp hw with hw|hw
     ·exact(tW w hw).like lk
     ·rw[List.mem_singleton.mp hw];exact tj3.like lk
    | _=>rw[ownj]at hj;exact hj.elim
  | _=>exact hi.elim
 | _=>rw[own]at hi;exact hi.elim
end
section
variable {X:Cx} {a b c e:Expr} {es:List Expr} {ws:WA} {ua:WT} {t:WS} {pos:Pos} {st:Stmt} {rest:List Stmt}
def JBG(X:Cx)(jf:Nat)(st:Stmt)(tb:(T->Prop)->WE):Prop:=∀(pins:List (Addr×Obj))(s:Shared)(σ:St)(H:Hp)(D:Ends)(R:T->Prop)(E:Value->Shared->Prop)(τ:List Slot)(Q0:T->Prop),Inv X pins σ H s->RepSt X.K X.H₀ H σ τ->tb R τ Q0 →
 (∀t v H' (N:Addr->Prop),Same H H'->NewL H H' N->GRep X.K H' N t v->Q0 t->D.nx (σ.set jf (some v)) H') →
 (∀H1 H' s1 s' a C dx,Inv X pins σ H1 s1->Same H H1->Fly X.prog X.w X.stack H1 s1 H' a (.ref C) s'->DAt s'.heap a dx->Same H1 H'->wishF X.K R C dx H'->E (.ref a) s') →
 wpAny (model X.prog X.w) X.A (exec st X.env) (fun f s'=>f=.next/\SP X pins D .next s') E s
theorem jbgSet{k:Nat}{ps:List Str}{S:SpX}{x y:Str}{i:Nat}{p yp spos:Pos}(hN:X.N.Nodup)(hi:X.N[i]?=some y)(hy:Loc X.env.scope y)(C:CalGN X.prog X.w X.K X.mg X.base k x ps S)(hx0:∀e s,X.xe e s->False)(hr:Room k X.A)(hg:Gl X x)(ha:JA X (e::es) ws) (hdb:(x==("__debug__" : Str))=false:=by decide)
  (he:starEach (e::es) X.env=(false,eval e X.env)::starEach es X.env:=by exact star1 rfl) (hpl:(backTo pos (starEach es X.env)).any (·.1)=false:=by exact stars rfl)
  (hs:swapsWith (.Call (.Name x p) (e::es) [] pos) (some (.Name y yp)) spos.line X.env=pure false:=by rfl) (hf:X.fn y=true∨X.env.scope.names.lookup y=some .local:=by first|exact .inl rfl|exact .inr rfl|assumption) :
  JBG X i (.Assign [.Name y yp] (.Call (.Name x p) (e::es) [] pos) spos) (fun R=>wCall (S R) ws):=by
 obtain⟨f,fd,F,hb,hk,hm⟩:=C
 intro pins s σ H D R E τ Q0 I R0 hw kn hE
 have run:wpAny (model X.prog X.w) X.A (eval (.Call (.Name x p) (e::es) [] pos) X.env) (EP X pins σ fun v H'=>D.nx (σ.set i (some v)) H') E s:=by
  refine wpAny_Call_Name_kw (ld_glob I hg hm ?_ hdb)
  have arg:=wpAny_mono (ha pos pins s σ H (fun vs H1=>∃ts,Same H H1/\Reps X.K H1 ts vs/\S R ts Q0) I ⟨τ,_,R0,hw,fun ts vs H1 S1 r q=>⟨ts,S1,r,q⟩⟩) (fun _ _ z=>z) (E':=E) fun e s z=>(hx0 e s z).elim
  refine PySem.W.callWith_K (h₀:=X.base) I.ok.mod.kin hk (thn arg fun us s1 ⟨vs,H1,I1,r,ts,S1,rr,q⟩=>⟨I1.kIn,?_⟩) he hpl
  exact run_atG F hr hb (fun a C dx H' s' fl da S2 h1=>hE H1 H' s1 s' a C dx I1 S1 fl da S2 h1) I1 r rr q fun t v H' N S2 n g q2=>kn t v H' N (S1.trans S2) (newL_up S1 n) g q2
 refine wpAny_Assign_Name (thn run fun v s1 ⟨z,H1,I1,r1,q1⟩=>?_) hs
 exact store_ok I1 hN hi hy r1 (fun s2 I2=>⟨rfl,_,H1,I2,q1⟩) hf
theorem jbgIf{i:Nat}{sa sb:Stmt}{ta tb:(T->Prop)->WE}(hc:JT X c ua)(hx0:∀e s,X.xe e s->False)(ha:JBG X i sa ta)(hb:JBG X i sb tb):JBG X i (.If c [sa] [sb] pos) (fun R τ Q=>ua τ fun k=>(k=true->ta R τ Q)/\(k=false->tb R τ Q)):=by
 intro pins s σ H D R E τ Q0 I R0 hw kn hE
 have test:=wpAny_mono (hc pins s σ H (fun d H1=>Same H H1/\(d=true->ta R τ Q0)/\(d=false->tb R τ Q0)) I ⟨τ,_,R0,hw,fun d H1 S1 q=>⟨S1,q⟩⟩) (fun _ _ z=>z) (E':=E) fun e s z=>(hx0 e s z).elim
 refine wpAny_If (thn test fun d s1 ⟨H1,I1,S1,q1,q2⟩=>?_)
 have kn1:∀t v H' (N:Addr->Prop),Same H1 H'->NewL H1 H' N->GRep X.K H' N t v->Q0 t->D.nx (σ.set i (some v)) H':=fun t v H' N S2 n g q=>kn t v H' N (S1.trans S2) (newL_up S1 n) g q
 have hE1:∀H2 H' s1 s' a C dx,Inv X pins σ H2 s1->Same H1 H2->Fly X.prog X.w X.stack H2 s1 H' a (.ref C) s'->DAt s'.heap a dx->Same H2 H'->wishF X.K R C dx H'->E (.ref a) s':=fun H2 H' s1 s' a C dx I2 S2=>hE H2 H' s1 s' a C dx I2 (S1.trans S2)
 cases d with
 | true =>
  refine wpAny_execs_cons (thn (ha pins s1 σ H1 D R E τ Q0 I1 (R0.mono S1) (q1 rfl) kn1 hE1) fun f s2 h2=>?_)
  obtain⟨rfl,h2⟩:=h2
  exact wpAny_execs_nil ⟨rfl,h2⟩
 | false =>
  refine wpAny_execs_cons (thn (hb pins s1 σ H1 D R E τ Q0 I1 (R0.mono S1) (q2 rfl) kn1 hE1) fun f s2 h2=>?_)
  obtain⟨rfl,h2⟩:=h2
  exact wpAny_execs_nil ⟨rfl,h2⟩
def caught(cs:List Str)(P:T->Prop):T->Prop:=fun x=>match x with | .exc c=>c∈cs/\P (.exc c) | .exf c f t=>c∈cs/\P (.exf c f t)|_=>False
theorem ps_tryG{tb:(T->Prop)->WE}{y n kept:Str}{i j jf:Nat}{np p1 p2 p3 hpos:Pos}{cs:List Str}(Df:DefCx X)(G:Catches X.K X.mg y cs)(hN:X.N.Nodup)(hi:X.N[i]?=some n)(hj:X.N[j]?=some kept)(hij:j≠i)(hln:X.env.scope.names.lookup n=some .local)(hlk:X.env.scope.names.lookup kept=some .local)
  (hg:Gl X y) (hb:JBG X jf st tb) (hdy:(y==("__debug__" : Str))=false) (hdn:(n==("__debug__" : Str))=false) (hcn:(n==("__classdict__" : Str))=false) :
  PS X (.Try [st] [.ExceptHandler (some (.Name y np)) (some n) [.Assign [.Name kept p1] (.Name n p2) p3] hpos] [] [] pos) (fun D σ H=>∃τ Q0 P,RepSt X.K X.H₀ H σ τ/\tb (caught cs P) τ Q0/\(∀t v H' (N:Addr->Prop),Same H H'->NewL H H' N->GRep X.K H' N t v->Q0 t->D.nx (σ.set jf (some v)) H')/\∀x σ' H',P x->Kp H H'->RepSt X.K X.H₀ H' σ' (sput (sput τ j (.val x)) i .no)->D.nx σ' H'):=by
 obtain⟨CY,hm,hcs⟩:=G
 intro pins s σ H Dn I ⟨τ,Q0,P,R0,hw,kn,ke⟩
 refine wpAny_Try_except ?_
 have body:=hb pins s σ H Dn _ (fun e s1=>wpAny (model X.prog X.w) X.A (noteFrame e X.env) (fun _ s2=>wpAny (model X.prog X.w) X.A (setFlight e none) (fun _ s3=>wpAny (model X.prog X.w) X.A (handleBy e X.env [.ExceptHandler (some (.Name y np)) (some n) [.Assign [.Name kept p1] (.Name n p2) p3] hpos]) (SP X pins Dn) X.xe s3) X.xe s2) X.xe s1) τ Q0 I R0 hw kn ?_
 ·refine wpAny_execs_cons (thn body fun f s1 h1=>?_)
  obtain⟨rfl,h1⟩:=h1
  exact wpAny_execs_nil (wpAny_execs_nil h1)
 ·intro H1 H' s1 s' a C dx I1 S1 fl da S2 ⟨c,h1,hw1⟩
  cases dx with
  | none =>
   obtain⟨hc,hq⟩:=hw1
   refine catch_at Df I1 fl da hN hi hj hij hln hlk hg hm (hcs c hc C h1) hdy hdn hcn fun s7 H7 o I7 S7 e7 oc ⟨ws',od⟩ _=>?_
   have SS:=S1.trans (S2.trans S7)
   exact⟨_,H7,I7,ke _ _ H7 hq (.of SS) (((R0.mono SS).put (rep_exc.mpr ⟨a,rfl,⟨o,C,ws',e7,oc,od,h1⟩⟩)).gone)⟩
  | some d =>
   obtain⟨f,t,od0,u,v,hd,hl,hu,hr,hc,hq⟩:=hw1
   refine catch_at Df I1 fl da hN hi hj hij hln hlk hg hm (hcs c hc C h1) hdy hdn hcn fun s7 H7 o I7 S7 e7 oc ⟨ws',od⟩ ed=>?_
   have SS:=S1.trans (S2.trans S7)
   exact⟨_,H7,I7,ke _ _ H7 hq (.of SS) (((R0.mono SS).put (rep_exf.mpr ⟨a,rfl,d,od0,u,v,⟨⟨o,C,ws',e7,oc,od,ed,h1⟩,S7 d _ hd,hl⟩,hu,hr.kp (.of S7)⟩)).gone)⟩
theorem pss_or{sts:List Stmt}{t1 t2:TS}(h1:PSs X sts t1)(h2:PSs X sts t2):PSs X sts (fun D σ H=>t1 D σ H∨t2 D σ H):=fun pins s σ H D I h=>h.elim (h1 pins s σ H D I) (h2 pins s σ H D I)
def noLD(D:DT):DT:={nx:=fun _=>False,rt:=fun t=>noL t=true/\D.rt t}
def sTold(tb:(T->Prop)->WE)(i j jf:Nat)(cs:List Str)(u:WT)(t:WS):WS:=fun D τ=>(jf < τ.length/\u τ (fun k=>k=true)/\∀t,u (sput τ jf (.val t)) (fun k=>k=true))/\tb (caught cs fun x=>sSeq (sIf u (sRet (wVar jf)) sNext) t (noLD D) (sput (sput τ j (.val x)) i .no)) τ D.rt
theorem jn_told{tb:(T->Prop)->WE}{y n kept z:Str}{i j jf:Nat}{np p1 p2 p3 hpos ip zp rp:Pos}{cs:List Str}(Df:DefCx X)(G:Catches X.K X.mg y cs)(hN:X.N.Nodup)(hi:X.N[i]?=some n)(hj:X.N[j]?=some kept)(hij:j≠i)(hln:X.env.scope.names.lookup n=some .local)(hlk:X.env.scope.names.lookup kept=some .local)
  (hg:Gl X y) (hb:JBG X jf st tb) (hc:JT X c ua) (hv:PE X (.Name z zp) (tVar jf)) (hvj:JE X (.Name z zp) (wVar jf)) (hr:JSs X rest t) (hdy:(y==("__debug__" : Str))=false:=by decide) (hdn:(n==("__debug__" : Str))=false:=by decide) (hcn:(n==("__classdict__" : Str))=false:=by decide) :
  JNs X (.Try [st] [.ExceptHandler (some (.Name y np)) (some n) [.Assign [.Name kept p1] (.Name n p2) p3] hpos] [] [] pos :: .If c [.Return (some (.Name z zp)) rp] [] ip::rest) (sTold tb i j jf cs ua t):=by
 have e1:PSs X (.If c [.Return (some (.Name z zp)) rp] [] ip::rest) (fun D σ H=>∃τ v,RepSt X.K X.H₀ H σ τ/\ua τ (fun k=>k=true)/\σ[jf]?=some (some v)/\∀H',Same H H'->D.rt v H'):=pss_of (pss_cons (ps_if hc (pss_one (ps_ret hv)) pss_nil) hr) fun D σ H ⟨τ,v,R,hu,ev,k⟩=>by
  refine⟨τ,_,R,hu,fun b H' S q=>?_⟩
  subst q
  show ite _ _ _
  rw[if_pos rfl]
  exact⟨v,ev,k H' S⟩
 have e2:JSs X (.If c [.Return (some (.Name z zp)) rp] [] ip::rest) (sSeq (sIf ua (sRet (wVar jf)) sNext) t):=jsc (jsif hc (js1 (jret hvj)) js0) hr
 refine pss_of (pss_cons (ps_tryG Df G hN hi hj hij hln hlk hg hb hdy hdn hcn) (pss_or e1 e2)) fun D σ H ⟨τ,D0,R,⟨⟨l1,u0,u1⟩,hw⟩,k⟩=>?_
 refine⟨τ,_,_,R,hw,fun t v H' N S n g q=>.inl ⟨sput τ jf (.val t),v,(R.mono S).put g.rep,u1 t,List.getElem?_set_self (by rw[← R.len];exact l1),fun H2 S2=>?_⟩,fun x σ' H' hq K1 R1=>.inr ⟨_,_,R1,hq,fun _ _ _ _ _ z=>z.elim,fun t v H2 S2 r z=>k t v H2 (fun _=>False) S2 (fun _ z=>z.elim) (grep_noL z.1 r) z.2,fun _ _ _ _ _ z=>z.elim,fun _ _ _ _ _ z=>z.elim⟩⟩
 exact k t v H2 N (R.same.trans (S.trans S2)) (fun q z=>⟨R.same.free (n q z).1,let ⟨o,xs,e⟩:=(n q z).2;⟨o,xs,S2 _ _ e⟩⟩) (g.same S2) q
end
theorem ext_tup(l:Addr)(xs:Array Value)(n:Nat)(b:Addr)(ys:Array Value)(m:Nat)(dd:Option Addr)(sl:Array (Option Value))(long:¬(!xs.isEmpty&&Builtin.List.listTooLong (xs.size + ys.size))=true)(z1:xs.size<=sizeLine)(z2:xs.size + ys.size<=sizeLine + 1) :
  Meets (Builtin.«list.extend» ⟨[.ref l,.ref b],[]⟩) (fun _ R s=>s.heap.get? l=some {cls:=.type "list", dict:=none,data:=.seq xs n,slots:=#[]}/\s.heap.get? b=some {cls:=.type "tuple", dict:=dd,data:=.seq ys m,slots:=sl} ∧
   R (.ok (.ret Value.none)) {s with heap:=s.heap.update l (Obj.mapSeq fun x=>x++ys),toks:=s.toks}):=by
 refine .of_wp fun prog w A R s q=>?_
 obtain⟨hp,gg,dr,tk,oo⟩:=s
 obtain⟨q1,q2,q3⟩:=q
 have u1:=AutoSeq1.sub_tuple_tuple
 have u2:=AutoSeq1.sub_list_list
 have u3:=AutoSeq1.sub_tuple_list
 have u4:=AutoSeq1.sub_list_tuple
 have zz:(xs++ys).size<=sizeLine + 1:=by rw[Array.size_append];exact z2
 wp_walk using (wpAny_updateSeq q1 rfl (hz:=z1) (_hz':=zz)),AutoSeq1.wpAny_loadPart' q1,AutoSeq1.wpAny_loadPart' q2
 exact⟨_,rfl,q3⟩
section
variable {X:Cx} {e:Expr} {w:WE} {pos:Pos}
theorem mt_extT:MtM X "list.extend" (fun x vs H Q=>∃l b xs zs,x=.ref l/\vs=[.ref b]/\H l=some (.lst xs)/\SqT X.K H b zs/\xs.length + zs.length<=1000/\Q .non (upd H l (.lst (xs++zs)))):=by
 intro pins s σ H x vs v us Q I rx rv h
 obtain⟨l,b,xs,zs,rfl,rfl,hH,hB,hz,q⟩:=h
 cases rx
 obtain⟨u,rfl,ru⟩:=vals1 rv
 cases ru
 obtain⟨z,its,n,r,hl,e1⟩:=I.lstM hH
 obtain⟨its2,r2,⟨ob,e2,cb,n2,db⟩,hl2⟩:=I.tuple hB
 obtain⟨c0,d0,dt,sl⟩:=ob
 simp only at cb db
 subst cb db
 have lx:its.length=xs.length:=r.length.symm
 have lz:its2.length=zs.length:=r2.length.symm
 have s1:its.toArray.size + its2.toArray.size<=1000:=by rw[List.size_toArray,List.size_toArray];omega
 have sz:its.toArray.size + its2.toArray.size<=sizeLine:=few s1
 have long:¬ (!its.toArray.isEmpty&&Builtin.List.listTooLong (its.toArray.size + its2.toArray.size))=true:=by
  rw[notLongL sz,Bool.and_false]
  exact Bool.false_ne_true
 have M:=ext_tup l its.toArray n b its2.toArray n2 d0 sl long (by omega) (by omega)
 refine call_meets F.slot_list_extend ⟨_,e1,rfl⟩ F.entry_list_extend (F.args_list_extend_2 _ _) M ⟨e1,e2,?_⟩
 refine⟨.non,_,I.lset (its':=its++its2) hH e1 (by simp) (r.append r2) ?_,rfl,q⟩
 rw[List.length_append]
 exact few hz
def sExtT(i:Nat)(w:WE):WS:=fun D τ=>match sget τ i with
 | .own ts=>w τ fun t=>match t with
  | .tup us=>ts.length + us.length<=1000/\D.nx (sput τ i (.own (ts++us)))
  | _=>False
 | _=>False
theorem jextT{i:Nat}{x:Str}{px apos cpos:Pos}(hv:PE X (.Name x px) (tVar i))(he:JE X e w)
  (hs:swapsWith (.Call (.Attribute (.Name x px) "extend" apos) [e] [] cpos) none pos.line X.env=pure false:=by rfl)
  (hbase:attributeBase (.Name x px) "extend" X.env (eval (.Name x px) X.env)=eval (.Name x px) X.env:=by rfl)
  (hfew:((backTo cpos (starEach [e] X.env)).all (fun x=>!x.1)&&(backToKw cpos (keywordEach [] X.env)).all (fun x=>x.1.isSome)
   && decide ([e].length + ([]:List Keyword).length + (if ([]:List Keyword).isEmpty then 0 else 1) < 30))=true:=by rfl)
  (hline:(apos.endLine==cpos.line)=true:=by rfl) (hst:starEach [e] X.env=(false,eval e X.env)::starEach [] X.env:=by rfl) (hplain:(backTo cpos (starEach [] X.env)).any (·.1)=false:=by rfl) :
  JS X (.Expr (.Call (.Attribute (.Name x px) "extend" apos) [e] [] cpos) pos) (sExtT i w):=by
 refine ps_of (ps_expr (pe_bm PySem.F.plainAttrs_list PySem.F.slot_list_extend PySem.F.type_list_extend mt_extT hv (pa_cons he pa_nil hst) hbase hfew hline hst hplain) hs) fun D σ H ⟨τ,D0,R,hw,k,_⟩=>?_
 unfold sExtT at hw
 split at hw
 ·rename_i ts own
  have sl:=R.slot i
  rw[own]at sl
  obtain⟨p,vs,ev,hp,rr,n0⟩:=sl
  refine⟨.ref p,ev,.inl ⟨rfl,vs,SqL.of hp⟩,τ,_,R,hw,fun t v H' S r q=>?_⟩
  cases t<;>first|exact q.elim|skip
  rename_i us
  rw[rep_tup]at r
  obtain⟨b,zs,rfl,sq,r2⟩:=r
  refine⟨p,b,vs,zs,rfl,rfl,S _ _ hp,sq,by rw[rr.length,r2.length];exact q.1,?_⟩
  exact k _ _ _ ((Kp.of S).trans (Kp.write (S _ _ hp) _)) ((R.mono S).write own ev (S _ _ hp) ((rr.kp (.of S)).append r2)) q.2
 ·exact hw.elim
end
end TL
end
section
namespace TL
open PySem PySem.Spec PyProof.Rows L2
structure Ed3(K:PySem.W.Frag)(H0 H:Hp)(p:Addr)(qs:List Addr)(ls:List (List T)):Prop where
 lst:H p=some (.lst (qs.map V.ref))
 np:p∉qs
 newp:H0 p=none
 nd:qs.Nodup
 len:qs.length=ls.length
 ats:∀(n:Nat)(q:Addr)(us:List T),qs[n]?=some q->ls[n]?=some us->∃ws,H q=some (.lst ws)/\Reps K H us ws
 new:∀q∈qs,H0 q=none
section
variable {K:PySem.W.Frag} {H0 H H':Hp} {p:Addr} {qs:List Addr} {ls:List (List T)}
theorem Ed3.mono(R:Ed3 K H0 H p qs ls)(S:Same H H'):Ed3 K H0 H' p qs ls :=
 ⟨S _ _ R.lst,R.np,R.newp,R.nd,R.len,fun n q us e1 e2=>by obtain⟨ws,a,b⟩:=R.ats n q us e1 e2;exact⟨ws,S _ _ a,b.kp (.of S)⟩,R.new⟩
theorem Ed3.at_q(R:Ed3 K H0 H p qs ls){n:Nat}{us:List T}(e:ls[n]?=some us):∃q ws,qs[n]?=some q/\H q=some (.lst ws)/\Reps K H us ws:=by
 have hn:n < ls.length:=(List.getElem?_eq_some_iff.mp e).1
 have hq:n < qs.length:=by rw[R.len];exact hn
 obtain⟨ws,a,b⟩:=R.ats n qs[n] us (List.getElem?_eq_getElem hq) e
 exact⟨qs[n],ws,List.getElem?_eq_getElem hq,a,b⟩
theorem Ed3.app(R:Ed3 K H0 H p qs ls){n:Nat}{q:Addr}{us:List T}{ws:List V}{t:T}{y:V}(e1:qs[n]?=some q)(e2:ls[n]?=some us)(hq:H q=some (.lst ws))(rr:Reps K H us ws)(rt:Rep K H t y):Ed3 K H0 (upd H q (.lst (ws++[y]))) p qs (ls.set n (us++[t])):=by
 have k:=Kp.write hq (.lst (ws++[y]))
 have hn:n < ls.length:=(List.getElem?_eq_some_iff.mp e2).1
 have mq:=List.mem_of_getElem? e1
 refine⟨?_,R.np,R.newp,R.nd,by rw[List.length_set];exact R.len,fun m q' us' f1 f2=>?_,R.new⟩
 ·rw[upd_ne (fun z=>R.np (by rw[z];exact mq))]
  exact R.lst
 ·by_cases hm:n=m
  ·subst hm
   rw[e1]at f1
   cases f1
   rw[List.getElem?_set_self hn]at f2
   cases f2
   exact⟨_,upd_same,(rr.kp k).append (.one (rt.kp k))⟩
  ·rw[List.getElem?_set_ne hm]at f2
   obtain⟨ws',a,b⟩:=R.ats m q' us' f1 f2
   refine⟨ws',?_,b.kp k⟩
   rw[upd_ne fun z=>hm ?_]
   ·exact a
   ·rw[z]at f1
    exact nodup_at R.nd e1 f1
end
section
variable {X:Cx}
theorem ed_fz{pins:List (Addr×Obj)}{σ:St}{H:Hp}{s:Shared}{p:Addr}{qs:List Addr}{ls:List (List T)}(I:Inv X pins σ H s)(SS:Same X.H₀ H)(D:Ed3 X.K X.H₀ H p qs ls):∃Hf,Inv X pins σ Hf s/\Same X.H₀ Hf/\Rep X.K Hf (.lst (ls.map T.lst)) (.ref p):=by
 obtain⟨wss,hw⟩:∃wss:List (Addr×List V),wss.map (·.1)=qs/\∀r∈wss,H r.1=some (.lst r.2):=by
  have hl:∀q∈qs,∃ws,H q=some (.lst ws):=fun q m=>by
   obtain⟨n,hn,e⟩:=List.getElem_of_mem m
   have hl:n < ls.length:=by rw[← D.len];exact hn
   obtain⟨ws,a,_⟩:=D.ats n q ls[n] (by rw[List.getElem?_eq_getElem hn,e]) (List.getElem?_eq_getElem hl)
   exact⟨ws,a⟩
  clear D
  induction qs with
  | nil=>exact⟨[],rfl,fun r m=>by cases m⟩
  | cons q qs ih =>
   obtain⟨wss,e,h⟩:=ih fun x m=>hl x (List.mem_cons_of_mem _ m)
   obtain⟨ws,hq⟩:=hl q List.mem_cons_self
   refine⟨(q,ws)::wss,by rw[List.map_cons,e],fun r m=>?_⟩
   rcases List.mem_cons.mp m with rfl|m
   ·exact hq
   ·exact h r m
 obtain⟨Hf,If,f1,f2,kf,_⟩:=fz_all (as:=(p,qs.map V.ref)::wss) (by rw[List.map_cons,hw.1];exact List.nodup_cons.mpr ⟨D.np,D.nd⟩) I fun r m=>by
  rcases List.mem_cons.mp m with rfl|m
  ·exact⟨D.lst,D.newp⟩
  ·exact⟨hw.2 r m,D.new r.1 (by rw[← hw.1];exact List.mem_map_of_mem m)⟩
 have S0:Same X.H₀ Hf:=fun b ob e=>by
  have nb:b∉((p,qs.map V.ref)::wss).map (·.1):=fun m=>by
   rw[List.map_cons,hw.1]at m
   rcases List.mem_cons.mp m with m|m
   ·rw[m,D.newp]at e;cases e
   ·rw[D.new b m]at e;cases e
  rw[f2 b nb]
  exact SS b ob e
 have reps:∀(qs':List Addr)(ls':List (List T)),qs'.length=ls'.length->(∀(n:Nat)(q:Addr)(us:List T),qs'[n]?=some q->ls'[n]?=some us->q∈qs/\∃ws,H q=some (.lst ws)/\Reps X.K H us ws)->Reps X.K Hf (ls'.map T.lst) (qs'.map V.ref):=fun qs'=>by
  induction qs' with
  | nil =>
   intro ls' e _
   cases ls' with
   | nil=>exact reps_nil.mpr rfl
   | cons _ _=>simp at e
  | cons q r ih =>
   intro ls' e g
   cases ls' with
   | nil=>simp at e
   | cons us t =>
    obtain⟨mq,ws,a,b⟩:=g 0 q us rfl rfl
    rw[← hw.1]at mq
    obtain⟨z,mz,ez⟩:=List.mem_map.mp mq
    obtain⟨o,eo⟩:=f1 z (List.mem_cons_of_mem _ mz)
    have e3:=hw.2 z mz
    rw[ez]at e3 eo
    rw[a]at e3
    cases e3
    exact Reps.cons (rep_lst.mpr ⟨q,_,rfl,.inl ⟨o,eo⟩,b.kp kf⟩) (ih t (by simpa using e) fun n q' us' g1 g2=>g (n + 1) q' us' (by simpa using g1) (by simpa using g2))
 obtain⟨o,eo⟩:=f1 (p,qs.map V.ref) List.mem_cons_self
 exact⟨Hf,If,S0,rep_lst.mpr ⟨p,_,rfl,.inl ⟨o,eo⟩,reps qs ls D.len fun n q us g1 g2=>⟨List.mem_of_getElem? g1,D.ats n q us g1 g2⟩⟩⟩
theorem pe_ed{e:Expr}{iy:Nat}(v:PE X e (tVar iy)):PE X e (fun σ H Q=>∃(p:Addr) (qs:List Addr) (ls:List (List T)),σ[iy]?=some (some (.ref p))/\Ed3 X.K X.H₀ H p qs ls/\Same X.H₀ H/\∀Hf,Same X.H₀ Hf->Rep X.K Hf (.lst (ls.map T.lst)) (.ref p)->Q (.ref p) Hf):=by
 intro pins s σ H Q I ⟨p,qs,ls,ev,D,SS,k⟩
 refine thn (v pins s σ H (fun y H1=>y=.ref p/\H1=H) I ⟨.ref p,ev,rfl,rfl⟩) fun u s2 ⟨y,H1,I1,ry,hy,hH⟩=>?_
 subst hy
 subst hH
 obtain⟨Hf,If,S0,rp⟩:=ed_fz I1 SS D
 exact⟨.ref p,Hf,If,ry,k Hf S0 rp⟩
theorem ps_ed{w:WE}{iy jk:Nat}{y k:Str}{e:Expr}{d1 d2 d3 d4 d6 pos:Pos}(v1:PE X (.Name y d1) (tVar iy))(v2:PE X (.Name k d2) (tVar jk))(he:JE X e w)
  (hs:swapsWith (.Call (.Attribute (.Subscript (.Name y d1) (.Name k d2) d3) "append" d4) [e] [] d6) none pos.line X.env=pure false:=by rfl)
  (hbase:attributeBase (.Subscript (.Name y d1) (.Name k d2) d3) "append" X.env (eval (.Subscript (.Name y d1) (.Name k d2) d3) X.env)=eval (.Subscript (.Name y d1) (.Name k d2) d3) X.env:=by rfl)
  (hfew:((backTo d6 (starEach [e] X.env)).all (fun x=>!x.1)&&(backToKw d6 (keywordEach [] X.env)).all (fun x=>x.1.isSome)
   && decide ([e].length + ([]:List Keyword).length + (if ([]:List Keyword).isEmpty then 0 else 1) < 30))=true:=by rfl)
  (hline:(d4.endLine==d6.line)=true:=by rfl) (hst:starEach [e] X.env=(false,eval e X.env)::starEach [] X.env:=by rfl) (hplain:(backTo d6 (starEach [] X.env)).any (·.1)=false:=by rfl) (nsl:PlainIx (.Name k d2):=by intro _ _;rfl) :
  PS X (.Expr (.Call (.Attribute (.Subscript (.Name y d1) (.Name k d2) d3) "append" d4) [e] [] d6) pos) (fun D σ H=>∃(p:Addr) (qs:List Addr) (m:Nat) (q:Addr) (ws:List V) (τ:List Slot) (Q0:T->Prop),σ[iy]?=some (some (.ref p))/\σ[jk]?=some (some (.int (m:Nat)))/\H p=some (.lst (qs.map V.ref))/\qs[m]?=some q/\H q=some (.lst ws)/\ws.length < 1000 ∧
   RepSt X.K X.H₀ H σ τ/\w τ Q0/\∀t v H',Same H H'->Rep X.K H' t v->Q0 t->D.nx σ (upd H' q (.lst (ws++[v])))) :=
 ps_of (ps_expr (pe_bm PySem.F.plainAttrs_list PySem.F.slot_list_append PySem.F.type_list_append mt_append (pe_ix ix_list v1 v2 nsl) (pa_cons he pa_nil hst) hbase hfew hline hst hplain) hs) fun D σ H ⟨p,qs,m,q,ws,τ,Q0,e1,e2,e3,e4,e5,l,R,hw,k⟩=>by
  have eat:atI (qs.map V.ref) ((m:Nat):Int)=some (.ref q):=atI_nat (by rw[List.getElem?_map,e4];rfl)
  refine⟨.ref p,e1,.int (m:Nat),e2,p,_,(m:Int),.ref q,rfl,rfl,SqL.of e3,eat,.inl ⟨rfl,ws,SqL.of e5⟩,τ,_,R,hw,fun t v H' S r z=>?_⟩
  exact⟨q,ws,v,rfl,rfl,S _ _ e5,small1000 (Nat.le_of_lt l),k t v H' S r z⟩
end
def edK(jk:Nat)(w1:WE)(u:WT)(w2:WE):List T->List (List T)->List Slot->(List (List T)->List Slot->Prop)->Prop
 | [],ls,τ,Q=>Q ls τ
 | t::ts,ls,τ,Q=>∃(m:Nat) (us:List T),t=.int (m:Nat)/\ls[m]?=some us/\us.length < 900/\w1 (sput τ jk (.val (.int (m:Nat)))) fun x=>u (sput τ jk (.val (.int (m:Nat)))) fun b =>
  (b=true->w2 (sput τ jk (.val (.int (m:Nat)))) fun y=>edK jk w1 u w2 ts ((ls.set m (us++[x])).set m (us++[x]++[y])) (sput τ jk (.val (.int (m:Nat)))) Q)/\(b=false->edK jk w1 u w2 ts (ls.set m (us++[x])) (sput τ jk (.val (.int (m:Nat)))) Q)
def edT(jo jk:Nat)(wi2:WI)(w1:WE)(u:WT)(w2:WE):List T->List (List T)->(T->Prop)->List Slot->Prop
 | [],ls,Q,_=>Q (.lst (ls.map T.lst))
 | t::ts,ls,Q,τ=>wi2 (sput τ jo (.val t)) fun ks=>edK jk w1 u w2 ks ls (sput τ jo (.val t)) fun ls' τ'=>edT jo jk wi2 w1 u w2 ts ls' Q τ'
def sEdg(iy jo jk:Nat)(wi wi2:WI)(w1:WE)(u:WT)(w2:WE):WS:=fun D τ=>(iy < τ.length/\jo < τ.length/\jk < τ.length/\∀j,lone1 (sget τ j)=true)/\wi (sput τ iy .no) fun ts=>edT jo jk wi2 w1 u w2 ts [[.int 0],[.int 0],[.int 0]] D.rt (sput τ iy .no)
theorem ed3_new{K:PySem.W.Frag}{H0 H:Hp}{p q1 q2 q3:Addr}(S0:Same H0 H)(h1:H q1=none)(h2:upd H q1 (.lst [.int 0]) q2=none)(h3:upd (upd H q1 (.lst [.int 0])) q2 (.lst [.int 0]) q3=none)(h4:upd (upd (upd H q1 (.lst [.int 0])) q2 (.lst [.int 0])) q3 (.lst [.int 0]) p=none) :
  Ed3 K H0 (upd (upd (upd (upd H q1 (.lst [.int 0])) q2 (.lst [.int 0])) q3 (.lst [.int 0])) p (.lst [.ref q1,.ref q2,.ref q3])) p [q1,q2,q3] [[.int 0],[.int 0],[.int 0]]/\Same H (upd (upd (upd (upd H q1 (.lst [.int 0])) q2 (.lst [.int 0])) q3 (.lst [.int 0])) p (.lst [.ref q1,.ref q2,.ref q3])):=by
 have S1:=same_new h1 (.lst [.int 0])
 have S2:=same_new h2 (.lst [.int 0])
 have S3:=same_new h3 (.lst [.int 0])
 have S4:=same_new h4 (.lst [.ref q1,.ref q2,.ref q3])
 have e1:upd H q1 (.lst [.int 0]) q1=some (.lst [.int 0]):=upd_same
 have e2:upd (upd H q1 (.lst [.int 0])) q2 (.lst [.int 0]) q2=some (.lst [.int 0]):=upd_same
 have e3:upd (upd (upd H q1 (.lst [.int 0])) q2 (.lst [.int 0])) q3 (.lst [.int 0]) q3=some (.lst [.int 0]):=upd_same
 have f1:=S4 _ _ (S3 _ _ (S2 _ _ e1))
 have f2:=S4 _ _ (S3 _ _ e2)
 have f3:=S4 _ _ e3
 have n12:q1≠q2:=fun z=>by rw[← z,e1]at h2;cases h2
 have n13:q1≠q3:=fun z=>by rw[← z,S2 _ _ e1]at h3;cases h3
 have n23:q2≠q3:=fun z=>by rw[← z,e2]at h3;cases h3
 have n1p:q1≠p:=fun z=>by rw[← z,S3 _ _ (S2 _ _ e1)]at h4;cases h4
 have n2p:q2≠p:=fun z=>by rw[← z,S3 _ _ e2]at h4;cases h4
 have n3p:q3≠p:=fun z=>by rw[← z,e3]at h4;cases h4
 have g2:H q2=none:=S1.free h2
 have g3:H q3=none:=S1.free (S2.free h3)
 have g4:H p=none:=S1.free (S2.free (S3.free h4))
 have r0:∀H',Reps K H' [.int 0] [.int 0]:=fun H'=>.one (rep_int.mpr rfl)
 refine⟨⟨upd_same,by simp[Ne.symm n1p,Ne.symm n2p,Ne.symm n3p],S0.free g4,by simp[n12,n13,n23],rfl,fun n q us a b=>?_,fun q m=>?_⟩,((S1.trans S2).trans S3).trans S4⟩
 ·match n,a,b with
  | 0,a,b=>cases a;cases b;exact⟨[.int 0],f1,r0 _⟩
  | 1,a,b=>cases a;cases b;exact⟨[.int 0],f2,r0 _⟩
  | 2,a,b=>cases a;cases b;exact⟨[.int 0],f3,r0 _⟩
  | n + 3,a,b=>simp at a
 ·simp only[List.mem_cons,List.not_mem_nil,or_false]at m
  rcases m with rfl|rfl|rfl
  ·exact S0.free h1
  ·exact S0.free g2
  ·exact S0.free g3
structure EI(X:Cx)(H1:Hp)(iy:Nat)(p:Addr)(qs:List Addr)(n:Nat)(τ:List Slot)(ls:List (List T))(σ:St)(H:Hp):Prop where
 len:τ.length=n
 rep:RepSt X.K X.H₀ H σ τ
 lone:∀j,lone1 (sget τ j)=true
 kp:Kp H1 H
 ev:σ[iy]?=some (some (.ref p))
 ed:Ed3 X.K X.H₀ H p qs ls
theorem EI.mono{X:Cx}{H1 H H':Hp}{iy n:Nat}{p:Addr}{qs:List Addr}{τ:List Slot}{ls:List (List T)}{σ:St}(E:EI X H1 iy p qs n τ ls σ H)(S:Same H H'):EI X H1 iy p qs n τ ls σ H':=⟨E.len,E.rep.mono S,E.lone,E.kp.trans (.of S),E.ev,E.ed.mono S⟩
theorem EI.put{X:Cx}{H1 H:Hp}{iy j n:Nat}{p:Addr}{qs:List Addr}{τ:List Slot}{ls:List (List T)}{σ:St}{t:T}{v:V}(E:EI X H1 iy p qs n τ ls σ H)(hj:iy≠j)(r:Rep X.K H t v):EI X H1 iy p qs n (sput τ j (.val t)) ls (σ.set j (some v)) H :=
 ⟨by rw[length_sput];exact E.len,E.rep.put r,lone_sput E.lone,E.kp,by rw[List.getElem?_set_ne (Ne.symm hj)];exact E.ev,E.ed⟩
theorem EI.app{X:Cx}{H1 H:Hp}{iy n m:Nat}{p q:Addr}{qs:List Addr}{τ:List Slot}{ls:List (List T)}{σ:St}{t:T}{v:V}{us:List T}{ws:List V}(E:EI X H1 iy p qs n τ ls σ H)(e1:qs[m]?=some q)(e2:ls[m]?=some us)(hq:H q=some (.lst ws))(rr:Reps X.K H us ws)(r:Rep X.K H t v):EI X H1 iy p qs n τ (ls.set m (us++[t])) σ (upd H q (.lst (ws++[v]))) :=
 ⟨E.len,E.rep.raw (ws':=ws++[v]) E.lone hq (E.ed.new q (List.mem_of_getElem? e1)),E.lone,E.kp.trans (Kp.write hq _),E.ev,E.ed.app e1 e2 hq rr r⟩
section
variable {X:Cx}
theorem jedges{wi wi2:WI}{w1 w2:WE}{u:WT}{iy jo jk:Nat}{y o k:Str}{iter rng e1 e2 c:Expr}{i1 i2 i3}{p1 p2 p3 q1 q2 q3 r1 r2 r3 a1 a2 b1 b2 b3 d1 d2 d3 d4 d6 d7 f1 f2 f3 f4 f6 f7 g1 g2:Pos}(hne:iy≠jo/\iy≠jk)(hp:PassesOwn (model X.prog X.w) X.A X.env X.xe)(hc:X.calm=true)
  (hN:X.N.Nodup) (hy:X.N[iy]?=some y) (ly:Loc X.env.scope y) (ho:X.N[jo]?=some o) (lo:Loc X.env.scope o) (hk:X.N[jk]?=some k) (lk:Loc X.env.scope k)
  (hit:JI X (.Name o a1) iter wi) (hit2:JI X (.Name k b1) rng wi2) (v1:PE X (.Name y d1) (tVar iy)) (vk1:PE X (.Name k d2) (tVar jk)) (h1:JE X e1 w1) (hcc:JT X c u) (v2:PE X (.Name y f1) (tVar iy)) (vk2:PE X (.Name k f2) (tVar jk)) (h2:JE X e2 w2) (v3:PE X (.Name y g1) (tVar iy))
  (fy:X.fn y=true∨X.env.scope.names.lookup y=some .local:=by first|exact .inl rfl|exact .inr rfl|assumption) (fo:X.fn o=true∨X.env.scope.names.lookup o=some .local:=by first|exact .inl rfl|exact .inr rfl|assumption) (fk:X.fn k=true∨X.env.scope.names.lookup k=some .local:=by first|exact .inl rfl|exact .inr rfl|assumption)
  (s1:swapsWith (.List [.List [.Constant (.int 0) i1 r1] q1,.List [.Constant (.int 0) i2 r2] q2,.List [.Constant (.int 0) i3 r3] q3] p2) (some (.Name y p1)) p3.line X.env=pure false:=by rfl)
  (t1:starEach [.List [.Constant (.int 0) i1 r1] q1,.List [.Constant (.int 0) i2 r2] q2,.List [.Constant (.int 0) i3 r3] q3] X.env=(false,eval (.List [.Constant (.int 0) i1 r1] q1) X.env)::starEach [.List [.Constant (.int 0) i2 r2] q2,.List [.Constant (.int 0) i3 r3] q3] X.env:=by rfl)
  (t2:starEach [.List [.Constant (.int 0) i2 r2] q2,.List [.Constant (.int 0) i3 r3] q3] X.env=(false,eval (.List [.Constant (.int 0) i2 r2] q2) X.env)::starEach [.List [.Constant (.int 0) i3 r3] q3] X.env:=by rfl)
  (t3:starEach [.List [.Constant (.int 0) i3 r3] q3] X.env=(false,eval (.List [.Constant (.int 0) i3 r3] q3) X.env)::starEach [] X.env:=by rfl)
  (u1:starEach [.Constant (.int 0) i1 r1] X.env=(false,eval (.Constant (.int 0) i1 r1) X.env)::starEach [] X.env:=by rfl) (u2:starEach [.Constant (.int 0) i2 r2] X.env=(false,eval (.Constant (.int 0) i2 r2) X.env)::starEach [] X.env:=by rfl) (u3:starEach [.Constant (.int 0) i3 r3] X.env=(false,eval (.Constant (.int 0) i3 r3) X.env)::starEach [] X.env:=by rfl)
  (z1:∀z,foldedSetIterable iter X.env z=pure z:=by intro _;rfl) (z2:∀z,foldedSetIterable rng X.env z=pure z:=by intro _;rfl)
  (s2:swapsWith (.Call (.Attribute (.Subscript (.Name y d1) (.Name k d2) d3) "append" d4) [e1] [] d6) none d7.line X.env=pure false:=by rfl) (hb1:attributeBase (.Subscript (.Name y d1) (.Name k d2) d3) "append" X.env (eval (.Subscript (.Name y d1) (.Name k d2) d3) X.env)=eval (.Subscript (.Name y d1) (.Name k d2) d3) X.env:=by rfl)
  (w1f:((backTo d6 (starEach [e1] X.env)).all (fun x=>!x.1)&&(backToKw d6 (keywordEach [] X.env)).all (fun x=>x.1.isSome)&&decide ([e1].length + ([]:List Keyword).length + (if ([]:List Keyword).isEmpty then 0 else 1) < 30))=true:=by rfl)
  (l1:(d4.endLine==d6.line)=true:=by rfl) (x1:starEach [e1] X.env=(false,eval e1 X.env)::starEach [] X.env:=by rfl) (y1:(backTo d6 (starEach [] X.env)).any (·.1)=false:=by rfl) (n1:PlainIx (.Name k d2):=by intro _ _;rfl)
  (s3:swapsWith (.Call (.Attribute (.Subscript (.Name y f1) (.Name k f2) f3) "append" f4) [e2] [] f6) none f7.line X.env=pure false:=by rfl) (hb2:attributeBase (.Subscript (.Name y f1) (.Name k f2) f3) "append" X.env (eval (.Subscript (.Name y f1) (.Name k f2) f3) X.env)=eval (.Subscript (.Name y f1) (.Name k f2) f3) X.env:=by rfl)
  (w2f:((backTo f6 (starEach [e2] X.env)).all (fun x=>!x.1)&&(backToKw f6 (keywordEach [] X.env)).all (fun x=>x.1.isSome)&&decide ([e2].length + ([]:List Keyword).length + (if ([]:List Keyword).isEmpty then 0 else 1) < 30))=true:=by rfl)
  (l2:(f4.endLine==f6.line)=true:=by rfl) (x2:starEach [e2] X.env=(false,eval e2 X.env)::starEach [] X.env:=by rfl) (y2:(backTo f6 (starEach [] X.env)).any (·.1)=false:=by rfl) (n2:PlainIx (.Name k f2):=by intro _ _;rfl) :
  JSs X [.Assign [.Name y p1] (.List [.List [.Constant (.int 0) i1 r1] q1,.List [.Constant (.int 0) i2 r2] q2,.List [.Constant (.int 0) i3 r3] q3] p2) p3,.For (.Name o a1) iter [.For (.Name k b1) rng [.Expr (.Call (.Attribute (.Subscript (.Name y d1) (.Name k d2) d3) "append" d4) [e1] [] d6) d7,
   .If c [.Expr (.Call (.Attribute (.Subscript (.Name y f1) (.Name k f2) f3) "append" f4) [e2] [] f6) f7] [] b3] [] b2] [] a2,.Return (some (.Name y g1)) g2] (sEdg iy jo jk wi wi2 w1 u w2):=by
 obtain⟨n3,n4⟩:=hne
 refine pss_of (pss_cons (ps_set hN hy ly (pe_lst (pa_cons (pe_lst (pa_cons pe_int pa_nil u1)) (pa_cons (pe_lst (pa_cons pe_int pa_nil u2)) (pa_cons (pe_lst (pa_cons pe_int pa_nil u3)) pa_nil t3) t2) t1)) s1 fy) (pss_cons (ps_for hp hc hit (pg_name hN ho lo fo) (pss_one (ps_for hp hc hit2 (pg_name hN hk lk fk)
  (pss_cons (ps_ed v1 vk1 h1 s2 hb1 w1f l1 x1 y1 n1) (pss_one (ps_if hcc (pss_one (ps_ed v2 vk2 h2 s3 hb2 w2f l2 x2 y2 n2)) pss_nil))) z2)) z1) (pss_one (ps_ret (pe_ed v3))))) fun D σ H ⟨τ,D0,R,hw,_,kr,_⟩=>?_
 obtain⟨⟨hyT,hoT,hkT,hlone⟩,hw⟩:=hw
 refine⟨show 1<=sizeLine by decide +kernel,fun x1 h1=>⟨show 1<=sizeLine by decide +kernel,fun x2 h2=>⟨show 1<=sizeLine by decide +kernel,fun x3 h3=>⟨show 3<=sizeLine by decide +kernel,fun p h4=>?_⟩⟩⟩⟩
 obtain⟨D1,S1⟩:=ed3_new (K:=X.K) R.same h1 h2 h3 h4
 generalize upd (upd (upd (upd H x1 (.lst [.int 0])) x2 (.lst [.int 0])) x3 (.lst [.int 0])) p (.lst [.ref x1,.ref x2,.ref x3])=Ha at D1 S1 ⊢
 have hlen:τ.length=σ.length:=R.len
 have hiN:iy < σ.length:=by omega
 refine⟨sput τ iy .no,_,(R.mono S1).hide,hw,fun ts J H1 S2 wk q=>?_⟩
 refine⟨fun n m σ' H'=>m=ts.length - n/\n<=ts.length/\∃τ' ls,EI X H1 iy p [x1,x2,x3] τ.length τ' ls σ' H'/\edT jo jk wi2 w1 u w2 (ts.drop n) ls D0.rt τ',⟨ts.length,by simp,Nat.zero_le _,_,[[.int 0],[.int 0],[.int 0]],⟨length_sput _ _ _,((R.mono S1).hide).mono S2,lone_hide hlone,.refl H1,List.getElem?_set_self hiN,D1.mono S2⟩,by rw[List.drop_zero];exact q⟩,?_⟩
 rintro n m σ2 H2 ⟨rfl,hn,τ2,ls,E2,q2⟩
 obtain⟨wi',ws'⟩:=wk H2 E2.kp
 by_cases hlt:n < ts.length
 ·refine .inr ?_
  obtain⟨go,yl⟩:=wi' n _ (List.getElem?_eq_getElem hlt)
  rw[List.drop_eq_getElem_cons hlt]at q2
  refine⟨go,fun σ' H'=>∃τ' ls,EI X H1 iy p [x1,x2,x3] τ.length τ' ls σ' H'/\edT jo jk wi2 w1 u w2 (ts.drop (n + 1)) ls D0.rt τ',fun σ' H' ⟨τ',ls',a,b⟩=>⟨ts.length - (n + 1),by omega,rfl,hlt,τ',ls',a,b⟩,fun z H3 yy=>?_⟩
  obtain⟨S3,r3⟩:=yl z H3 yy
  simp only[edT]at q2
  generalize ts[n]=t at q2 r3
  have E3:=(E2.mono S3).put n3 r3
  refine⟨_,_,E3.rep,q2,fun ks J2 H4 S4 wk2 q4=>?_⟩
  have E4:=E3.mono S4
  refine⟨fun n' m' σ' H'=>m'=ks.length - n'/\n'<=ks.length/\∃τ' ls',EI X H1 iy p [x1,x2,x3] τ.length τ' ls' σ' H'/\Kp H4 H'/\edK jk w1 u w2 (ks.drop n') ls' τ' (fun ls'' τ''=>edT jo jk wi2 w1 u w2 (ts.drop (n + 1)) ls'' D0.rt τ''),⟨ks.length,by simp,Nat.zero_le _,_,ls,E4,.refl H4,by rw[List.drop_zero];exact q4⟩,?_⟩
  rintro n' m' σ5 H5 ⟨rfl,hn',τ5,ls5,E5,K5,q5⟩
  obtain⟨wi5,ws5⟩:=wk2 H5 K5
  by_cases hl5:n' < ks.length
  ·refine .inr ?_
   obtain⟨go5,yl5⟩:=wi5 n' _ (List.getElem?_eq_getElem hl5)
   rw[List.drop_eq_getElem_cons hl5]at q5
   refine⟨go5,fun σ' H'=>∃τ' ls',EI X H1 iy p [x1,x2,x3] τ.length τ' ls' σ' H'/\Kp H4 H'/\edK jk w1 u w2 (ks.drop (n' + 1)) ls' τ' (fun ls'' τ''=>edT jo jk wi2 w1 u w2 (ts.drop (n + 1)) ls'' D0.rt τ''),fun σ' H' ⟨τ',ls',a,b,c⟩=>⟨ks.length - (n' + 1),by omega,rfl,hl5,τ',ls',a,b,c⟩,fun z6 H6 yy6=>?_⟩
   obtain⟨S6,r6⟩:=yl5 z6 H6 yy6
   simp only[edK]at q5
   obtain⟨mm,us,et,eu,lus,q5⟩:=q5
   rw[et]at r6
   have ez:=rep_int.mp r6
   subst ez
   have E6:=(E5.mono S6).put n4 r6
   have K6:=K5.trans (.of S6)
   obtain⟨qa,wa,eq1,hq,rq⟩:=E6.ed.at_q eu
   have lwa:wa.length=us.length:=rq.length
   have lσ:jk < σ5.length:=by have:=E5.rep.len;have:=E5.len;omega
   refine⟨p,[x1,x2,x3],mm,qa,wa,_,_,E6.ev,List.getElem?_set_self lσ,E6.ed.lst,eq1,hq,by omega,E6.rep,q5,fun tx vx H7 S7 r7 q7=>?_⟩
   have E7:=E6.mono S7
   have hq7:=S7 _ _ hq
   have rq7:=rq.kp (.of S7)
   have E8:=E7.app eq1 eu hq7 rq7 r7
   have K8:=(K6.trans (.of S7)).trans (Kp.write hq7 (.lst (wa++[vx])))
   have rx8:=r7.kp (Kp.write hq7 (.lst (wa++[vx])))
   have rq8:=rq7.kp (Kp.write hq7 (.lst (wa++[vx])))
   have hq8:upd H7 qa (.lst (wa++[vx])) qa=some (.lst (wa++[vx])):=upd_same
   generalize upd H7 qa (.lst (wa++[vx]))=H8 at E8 K8 rx8 rq8 hq8 ⊢
   refine⟨_,_,E8.rep,q7,fun bb H9 S9 q9=>?_⟩
   have E9:=E8.mono S9
   have K9:=K8.trans (.of S9)
   have hmm:mm < ls5.length:=(List.getElem?_eq_some_iff.mp eu).1
   cases bb with
   | true =>
    show ite _ _ _
    rw[if_pos rfl]
    refine⟨p,[x1,x2,x3],mm,qa,_,_,_,E9.ev,List.getElem?_set_self lσ,E9.ed.lst,eq1,S9 _ _ hq8,by rw[List.length_append];simp;omega,E9.rep,q9.1 rfl,fun ty vy HA SA rA qA=>?_⟩
    have EA:=E9.mono SA
    have hqA:=SA _ _ (S9 _ _ hq8)
    refine⟨_,_,EA.app eq1 (List.getElem?_set_self hmm) hqA ((rq8.append (.one rx8)).kp (.of (S9.trans SA))) rA,(K9.trans (.of SA)).trans (Kp.write hqA _),qA⟩
   | false =>
    show ite _ _ _
    rw[if_neg (by decide)]
    exact⟨_,_,E9,K9,q9.2 rfl⟩
  ·have e:n'=ks.length:=by omega
   subst e
   rw[List.drop_length]at q5
   exact .inl ⟨ws5,τ5,ls5,E5,q5⟩
 ·have e:n=ts.length:=by omega
  subst e
  rw[List.drop_length]at q2
  exact .inl ⟨ws',p,[x1,x2,x3],ls,E2.ev,E2.ed,E2.rep.same,fun Hf Sf rf=>kr _ _ Hf Sf rf q2⟩
end
def spG0(K:PySem.W.Frag)(n:Nat)(S:SpT):Sp:=fun vs H Q _=>∃(ts:List T) (Q0:T->Prop),vs.length=n/\Reps K H ts vs/\S ts Q0/\∀t v H' (N:Addr->Prop),Same H H'->NewL H H' N->GRep K H' N t v->Q0 t->Q v H'
structure FnG0(P:Program)(w:World)(K:PySem.W.Frag)(mg:Str->Option Value)(base:Heap)(k:Nat)(f:Addr)(fd:FuncData)(ps:List Str)(S:SpT):Prop where
 ok:FnOk P w K mg base CX0 k f fd ps (spG0 K ps.length S)
 len:∀ts Q,S ts Q->ts.length=ps.length
theorem FnG0.t{P:Program}{w:World}{K:PySem.W.Frag}{mg:Str->Option Value}{base:Heap}{k:Nat}{f:Addr}{fd:FuncData}{ps:List Str}{S:SpT}(F:FnG0 P w K mg base k f fd ps S):FnT P w K mg base k f fd ps S :=
 ⟨⟨fun vs H Q E ⟨_,_,e,_⟩=>e,fun A outer s H args us vs Q E hr e0 hb hv ⟨ts,Q0,e,r,hS,q⟩=>F.ok.run A outer s H args us vs Q E hr e0 hb hv ⟨ts,Q0,e,r,hS,fun t v H' N S1 _ g z=>q t v H' S1 g.rep z⟩⟩,F.len⟩
def CalG0(P:Program)(w:World)(K:PySem.W.Frag)(mg:Str->Option Value)(base:Heap)(k:Nat)(x:Str)(ps:List Str)(S:SpT):Prop :=
 ∃f fd,FnG0 P w K mg base k f fd ps S/\Binds K fd ps []/\PySem.W.keepIn K (.ref f)=true/\mg x=some (.ref f)
theorem CalG0.mk{P:Program}{w:World}{K:PySem.W.Frag}{mg:Str->Option Value}{base:Heap}{k:Nat}{x qual:Str}{ps:List Str}{S:SpT}{st:Stmt}{f:Addr}{fd:FuncData}(F:Fun K x qual st f fd)(m:mg x=some (.ref f))
  (b:Binds K fd ps []) (h:FnG0 P w K mg base k f fd ps S):CalG0 P w K mg base k x ps S:=⟨f,fd,h,b,F.kp,m⟩
theorem CalG0.t{P:Program}{w:World}{K:PySem.W.Frag}{mg:Str->Option Value}{base:Heap}{k:Nat}{x:Str}{ps:List Str}{S:SpT}(C:CalG0 P w K mg base k x ps S):Cal P w K mg base k x ps S :=
 let ⟨f,fd,F,b,kp,m⟩:=C;⟨f,fd,F.t,b,kp,m⟩
theorem fnG0{P:Program}{w:World}{K:PySem.W.Frag}{mg:Str->Option Value}{base:Heap}{x qual:Str}{st:Stmt}{f:Addr}{fd:FuncData}{N ps:List Str}{k:Nat}{S:SpT}{W:WS}(F:Fun K x qual st f fd)(SC:FnScope N ps (defScope st))
  (hlen:∀ts Q,S ts Q->ts.length=ps.length)
  (hbody:∀(cdv:Value)(A:Around)(outer:List Env)(s:Shared)(H:Hp)(E:XK),Room k (A.deeper (envOfC qual (defScope st) s.heap.objs.size f cdv))->JNs (cxOf CX0 P w K mg base N qual (defScope st) f cdv A outer s H E).nox (defBody st) W)
  (hw:∀ts Q,S ts Q->W {nx:=fun _=>False,rt:=Q} (startT N.length ts)):FnG0 P w K mg base (k + 1) f fd ps S:=by
 refine⟨F.ok SC (fun vs H Q E h=>?_) (fun cdv A outer s H vs Q E hr h=>?_),hlen⟩
 ·obtain⟨_,_,e,_⟩:=h
  exact e
 obtain⟨ts,Q0,e,r,hS,q⟩:=h
 exact⟨_,hbody cdv A outer s H E hr,startT N.length ts,{nx:=fun _=>False,rt:=Q0},repSt_start r,hw ts Q0 hS,fun t v H' N S1 n g z=>q t v H' N S1 n g z⟩
section
variable {X:Cx} {e:Expr} {es:List Expr} {ws:WA} {pos:Pos}
theorem jge_call0{k:Nat}{ps:List Str}{S:SpT}{x:Str}{p:Pos}(C:CalG0 X.prog X.w X.K X.mg X.base k x ps S)(hr:Room k X.A)(hg:Gl X x)
  (ha:JA X (e::es) ws) (hdb:(x==("__debug__" : Str))=false:=by decide) (he:starEach (e::es) X.env=(false,eval e X.env)::starEach es X.env:=by exact star1 rfl)
  (hpl:(backTo pos (starEach es X.env)).any (·.1)=false:=by exact stars rfl):JGE X (.Call (.Name x p) (e::es) [] pos) (wCall S ws):=by
 obtain⟨f,fd,F,hb,hk,hm⟩:=C
 intro pins s σ H Q I ⟨τ,Q0,R0,hw,k⟩
 refine wpAny_Call_Name_kw (ld_glob I hg hm ?_ hdb)
 refine PySem.W.callWith_K (h₀:=X.base) I.ok.mod.kin hk (thn (ha pos pins s σ H (fun vs H1=>∃ts,Same H H1/\Reps X.K H1 ts vs/\S ts Q0) I ⟨τ,_,R0,hw,fun ts vs H1 S1 r q=>⟨ts,S1,r,q⟩⟩) fun us s1 ⟨vs,H1,I1,r,ts,S1,rr,q⟩=>⟨I1.kIn,?_⟩) he hpl
 have hl:us.length=ps.length:=by rw[← r.length,rr.length];exact F.len _ _ q
 have hbb:=hb s1 us I1.kIn (by simpa using hl)
 rw[List.append_nil]at hbb
 refine wpAny_call (codeAny_mono (F.ok.run X.A X.stack s1 H1 ⟨us,[]⟩ us vs Q (fun _ _ _=>False) hr I1.env0 hbb r ⟨ts,Q0,by rw[r.length];exact hl,rr,q,fun t v H' N S2 n g q2=>k t v H' N (S1.trans S2) (newL_up S1 n) g q2⟩) fun res s' h=>?_)
 cases res with
 | error e=>exact False.elim h
 | ok fl =>
  cases fl with
  | ret u=>exact I1.after h
  | next=>exact False.elim h
  | brk=>exact False.elim h
  | cont=>exact False.elim h
end
section
variable {X:Cx}
theorem call_minL(hc:X.calm=true):CallR X (.builtin "min") (fun xs H Q=>∃(p:Addr) (ns:List Int),xs=[.ref p]/\SqL X.K H p (ns.map V.int)/\ns≠[]/\∀m∈ns,(∀n∈ns,m<=n)->Q (.int m) H):=by
 intro pins s σ H xs us Q I r h
 obtain⟨p,ns,rfl,hq,hne,q⟩:=h
 obtain⟨u,rfl,rx⟩:=vals1 r
 cases rx
 obtain⟨its,r',pl,hz⟩:=I.list hq
 have hi:IntsAre its ns:=intsAre_of r'
 have hlen:its.length=ns.length:=by have:=r'.length;simpa using this.symm
 have hl:=pl.isList
 have hlt:p < s.heap.objs.size:=by obtain⟨_,e,_⟩:=hl;exact Heap.lt_size e
 have hn0:=List.length_pos_iff.mpr hne
 have hn:0 < its.toArray.size:=by
  rw[List.size_toArray,hlen]
  exact hn0
 refine call_min_walk (wpAny_pyIter_list hl ?_)
 refine⟨s.heap.objs.size,[s.heap.objs.size,p],[s.heap.objs.size],its.toArray.size,_,_,_,rfl,Walks.list (A:=X.A.in1) (I.ok.hd hc) _ p (Nat.ne_of_lt hlt) its.toArray,
  ⟨⟨_,Heap.get?_push_size _ rfl,rfl,rfl⟩,hl.push _⟩,fun b hb'=>?_,hn,CmpOf.ints_lt (fun i=>ns.getD i 0) (fun i v hv=>ints_at hi (by simpa using hv)),fun v h' tk hP hk=>?_⟩
 ·show b < (s.heap.push _).objs.size
  rw[Heap.size_push]
  rcases List.mem_cons.mp hb' with rfl|hb'
  ·exact Nat.lt_succ_self _
  ·rcases List.mem_cons.mp hb' with rfl|hb'
   ·exact Nat.lt_succ_of_lt hlt
   ·cases hb'
 ·have hb:=argBest_lt (fun i=>ns.getD i 0) (its.toArray.size - 1)
  have e1:its.toArray.size=ns.length:=by rw[List.size_toArray,hlen]
  have hP':its[argBest (fun i j=>decide (ns.getD i 0 < ns.getD j 0)) (its.toArray.size - 1)]?=some v:=by
   have:=hP
   rwa [List.getElem?_toArray]at this
  rw[e1]at hb hP'
  generalize argBest (fun i j=>decide (ns.getD i 0 < ns.getD j 0)) (ns.length - 1)=B at hb hP'
  obtain⟨t,rfl⟩:=ints_at hi hP'
  have lt:B < ns.length:=by have:=hb.1;omega
  refine⟨.int _,H,I.kept (t':=tk) (LSm.kept_iter hk),⟨t,rfl⟩,q _ ?_ fun n hm=>?_⟩
  ·rw[List.getD_eq_getElem?_getD,List.getElem?_eq_getElem lt]
   exact List.getElem_mem lt
  ·obtain⟨j,hj,rfl⟩:=List.getElem_of_mem hm
   have:=hb.2 j (by omega)
   have ej:ns.getD j 0=ns[j]:=by rw[List.getD_eq_getElem?_getD,List.getElem?_eq_getElem hj];rfl
   rw[ej]at this
   exact this
def rMinLT(ts:List T)(Q:T->Prop):Prop:=match ts with
 | [.lst xs]=>(match intsOf xs with|some ns=>ns≠[]/\∀m∈ns,(∀n∈ns,m<=n)->Q (.int m)|none=>False)
 | _=>False
theorem bl_minL(hc:X.calm=true):BlR X (.builtin "min") rMinLT:=by
 refine⟨_,call_minL hc,fun ts vs H Q0 Q r q k=>?_⟩
 unfold rMinLT at q
 split at q
 ·obtain⟨v,rfl,r1⟩:=reps1 r
  split at q
  ·rename_i ns e
   rw[intsOf_eq e,rep_lst]at r1
   obtain⟨p,ys,rfl,sq,rr⟩:=r1
   rw[reps_ints_inv rr]at sq
   exact⟨p,ns,rfl,sq.sq,q.1,fun m hm h=>k _ _ H (.refl H) (rep_int.mpr rfl) (q.2 m hm h)⟩
  ·exact q.elim
 ·exact q.elim
end
end TL
end
namespace TL
open PySem PySem.Spec PyProof.Rows L2
theorem cpow10(n:Int)(h:0<=n/\n<=1000000):CPow 10 n:=⟨h.1,h.2,by decide⟩
theorem Lim.of{n:Nat}{i:Int}(h1:-(10 ^ n) < i)(h2:i < 10 ^ n):Lim n i:=by
 unfold Lim
 have:((10 ^ n:Nat):Int)=10 ^ n:=by simp
 omega
theorem Lim.bd{n:Nat}{i:Int}(h:Lim n i):-(10 ^ n) < i/\i < 10 ^ n:=by
 unfold Lim at h
 have:((10 ^ n:Nat):Int)=10 ^ n:=by simp
 omega
theorem Lim.mono{m n:Nat}{i:Int}(h:Lim m i)(hn:m<=n):Lim n i:=Nat.lt_of_lt_of_le h (Nat.pow_le_pow_right (by decide) hn)
theorem Lim.mul{m n:Nat}{i j:Int}(a:Lim m i)(b:Lim n j):Lim (m + n) (i * j):=by
 unfold Lim at *
 rw[Int.natAbs_mul,Nat.pow_add]
 exact Nat.mul_lt_mul'' a b
theorem Lim.add{m n:Nat}{i j:Int}(a:Lim m i)(b:Lim n j):Lim (max m n + 1) (i + j):=by
 have a':=a.mono (Nat.le_max_left m n)
 have b':=b.mono (Nat.le_max_right m n)
 unfold Lim at *
 rw[Nat.pow_succ]
 have:=Int.natAbs_add_le i j
 omega
theorem Lim.neg{m:Nat}{i:Int}(a:Lim m i):Lim m (-i):=by
 unfold Lim at *
 rw[Int.natAbs_neg]
 exact a
theorem Lim.sub{m n:Nat}{i j:Int}(a:Lim m i)(b:Lim n j):Lim (max m n + 1) (i - j):=by
 rw[Int.sub_eq_add_neg]
 exact a.add b.neg
theorem mulOk{m n:Nat}{i j:Int}(a:Lim m i)(b:Lim n j)(hm:m<=100000:=by decide)(hn:n<=100000:=by decide):MulOk i j:=.inl ⟨m,n,hm,hn,a,b⟩
theorem mulOkL{i j:Int}(a:Lim 19 i):MulOk i j:=.inr (.inl a)
theorem mulOkR{i j:Int}(b:Lim 19 j):MulOk i j:=.inr (.inr b)
theorem divOk{n:Nat}{j:Int}(h:j≠0)(b:Lim n j)(hn:n<=2200:=by decide):DivOk j:=⟨h,n,hn,b⟩
theorem fmod_pos{b:Int}(a:Int)(h:0 < b):0<=a.fmod b/\a.fmod b < b:=⟨Int.fmod_nonneg_of_pos a h,Int.fmod_lt_of_pos a h⟩
theorem plain_ints:∀ns:List Int,PyData.canLayAll0 (pds (ns.map T.int))=true
 | []=>by simp[pds,PyData.canLayAll0]
 | n::r=>by simp only[List.map,pds,pd,PyData.canLayAll0,PyData.canLay0,plain_ints r,Bool.and_self]
theorem dep_ints:∀ns:List Int,PyData.depthAll (pds (ns.map T.int))=0
 | []=>by simp[pds,PyData.depthAll]
 | n::r=>by simp only[List.map,pds,pd,PyData.depthAll,PyData.depth,dep_ints r,Nat.max_self]
theorem eqOk_tup(ns ms:List Int):EqOk (.tup (ns.map T.int)) (.tup (ms.map T.int)):=by
 refine⟨by simp only[plain,pd,PyData.canLay0,plain_ints],by simp only[plain,pd,PyData.canLay0,plain_ints],by simp only[dep,pd,PyData.depth,dep_ints];decide⟩
theorem atI_map{ns:List Int}{k:Int}(h0:0<=k)(h1:k < ns.length):∃v,v∈ns/\atI (ns.map T.int) k=some (.int v):=by
 have hk:k.toNat < ns.length:=by omega
 refine⟨ns[k.toNat],List.getElem_mem hk,?_⟩
 unfold atI ixN
 rw[List.length_map,if_pos h0,if_pos h1]
 simp only[Option.bind]
 rw[List.getElem?_map,List.getElem?_eq_getElem hk]
 rfl
theorem atI0{α:Type}(a:α)(r:List α):atI (a::r) 0=some a:=by
 unfold atI ixN
 rw[if_pos (by decide),if_pos (by simp)]
 rfl
theorem atI1{α:Type}(a b:α)(r:List α):atI (a::b::r) 1=some b:=by
 unfold atI ixN
 rw[if_pos (by decide),if_pos (by simp;omega)]
 rfl
theorem atI2{α:Type}(a b c:α)(r:List α):atI (a::b::c::r) 2=some c:=by
 unfold atI ixN
 rw[if_pos (by decide),if_pos (by simp;omega)]
 rfl
def Within:List Int->List Int->Prop
 | [],[]=>True
 | r::rs,b::bs=>(0<=r/\r < b)/\Within rs bs
 | _,_=>False
theorem Within.snoc:∀{rs bs:List Int}{r b:Int},Within rs bs->0<=r->r < b->Within (rs++[r]) (bs++[b])
 | [],[],r,b,_,h0,h1=>⟨⟨h0,h1⟩,trivial⟩
 | _::_,_::_,r,b,h,h0,h1=>⟨h.1,h.2.snoc h0 h1⟩
 | [],_::_,_,_,h,_,_=>h.elim
 | _::_,[],_,_,h,_,_=>h.elim
theorem Within.length:∀{rs bs:List Int},Within rs bs->rs.length=bs.length
 | [],[],_=>rfl
 | _::_,_::_,h=>by simp[h.2.length]
 | [],_::_,h=>h.elim
 | _::_,[],h=>h.elim
@[elab_as_elim] theorem args0{α:Type}{M:List α->Prop}{us:List α}(hl:us.length=0)(h:M []):M us:=by cases us;exact h;cases hl
@[elab_as_elim] theorem argsS{α:Type}{M:List α->Prop}{us:List α}{n:Nat}(hl:us.length=n + 1)(h:∀a r,r.length=n->M (a::r)):M us:=by cases us;cases hl;exact h _ _ (Nat.succ.inj hl)
@[elab_as_elim] theorem args1{α:Type}{M:List α->Prop}{us:List α}(hl:us.length=1)(h:∀a,M [a]):M us:=argsS (M:=M) hl fun a r hl=>args0 (M:=fun r=>M (a::r)) hl (h a)
@[elab_as_elim] theorem args2{α:Type}{M:List α->Prop}{us:List α}(hl:us.length=2)(h:∀a b,M [a,b]):M us:=argsS (M:=M) hl fun a r hl=>args1 (M:=fun r=>M (a::r)) hl (h a)
@[elab_as_elim] theorem args3{α:Type}{M:List α->Prop}{us:List α}(hl:us.length=3)(h:∀a b c,M [a,b,c]):M us:=argsS (M:=M) hl fun a r hl=>args2 (M:=fun r=>M (a::r)) hl (h a)
@[elab_as_elim] theorem args4{α:Type}{M:List α->Prop}{us:List α}(hl:us.length=4)(h:∀a b c d,M [a,b,c,d]):M us:=argsS (M:=M) hl fun a r hl=>args3 (M:=fun r=>M (a::r)) hl (h a)
local macro_rules|`(tactic| walk_at "tw")=>`(tactic| simp only[sSeq,sNext,sSet,sIf,sRet,sOwn,sApp,sFrz,sAsg,sPar,sFor,sNever,sExpr,sRetN,gT,gsC,gs0,gN,wVar,wC,w2,rAddT,rSubT,rMulT,rDivT,rModT,rPowT,wNeg,wCmp,tCmpT,cLtT,cLeT,cGtT,cGeT,cEqT,cNeT,cIsN,cNotN,wChain,tChainT,tAndT,tOrT,tNotT,tVal,wAndV,wOrV,wNotV,wIfE,aNil,aCons,wTup,wLst,rIxTT,wCB,rLenT,rAbsT,rMaxT,rMinT,rTupleT,isK,noExc,wIsi,wCall,sget,sput,iSeq,iRange1,iRange2,iEnum,iZip,seqOf,zipT,wComp,compT,hide,tTrue,rSumT,intsOf,rAllT,boolsOf,rListT,rCatLT,rMin3T,wRevA,wSl,wo,wo0,rSlTT,sRaise,sRaiseF,sTry,wIsE,wFld,rIxST,rAddST,rMulST,tTruT,cInT,cNotInT,rSortT,strsOf,sOwnF,sSetIx,sCatO,iOwn,endO,frO,wFz,tFz,sFzS,vatT,vat1,backT,lone,lone1,noL,noLs,rMulLT,lstQ,soX,wCount,rCountTs,cInTT,sEnt,ownsT,dropV,valV,noV,isV,drop1,sNoR,allL,sBornD,nD,nDs,sRetW,sScrapM,noLD,sTold,caught,sExtT,edK,edT,sEdg,rMinLT,wJoin,rJoinT,rStrT,wSlS,rAddAT,rLenST,sOwnC,Option.map,List.sum_cons,List.sum_nil,rangeT,startT,atI0,atI1,atI2,List.map,List.length_cons,List.length_nil,List.append_nil,List.cons_append,List.nil_append,List.replicate,Nat.reduceAdd,Nat.reduceSub,Nat.reduceLeDiff,Nat.zero_le,Int.reduceToNat,Int.reducePow,Int.reduceMul,Int.reduceAdd,true_and,and_true])
local macro_rules|`(tactic| walk_at "go")=>`(tactic| ((conv=>whnf);repeat (first|(refine And.intro (by first|rfl|exact trivial|decide|exact Nat.le_of_ble_eq_true rfl|exact mulOk (by assumption) (by assumption)|assumption) ?_;conv=>whnf)|(refine And.intro (fun q=>Bool.noConfusion q) (fun _=>?_);conv=>whnf)|(refine And.intro (fun _=>?_) (fun q=>Bool.noConfusion q);conv=>whnf))))
local macro_rules|`(tactic| walk_at "nf1")=>`(tactic| conv=>arg 1;simp only[startT,sput,sget,hide,List.map,List.replicate,List.length_cons,List.length_nil,Nat.reduceAdd,Nat.reduceSub,List.cons_append,List.nil_append,List.append_nil])
local macro_rules|`(tactic| walk_at "nf2")=>`(tactic| conv=>arg 2;simp only[startT,sput,sget,hide,List.map,List.replicate,List.length_cons,List.length_nil,Nat.reduceAdd,Nat.reduceSub,List.cons_append,List.nil_append,List.append_nil])
structure Frac(p q a b:Int):Prop where
 pos:0 < q
 cop:Int.gcd p q=1
 eq:p * b=a * q
 top:p.natAbs<=a.natAbs
 bot:q.natAbs<=b.natAbs
theorem low_uniq{p q p' q':Int}(hq:0 < q)(hq':0 < q')(c:Int.gcd p q=1)(c':Int.gcd p' q'=1)(e:p * q'=p' * q):p=p'/\q=q':=by
 have n:p.natAbs * q'.natAbs=p'.natAbs * q.natAbs:=by rw[← Int.natAbs_mul,← Int.natAbs_mul,e]
 have c1:Nat.Coprime q.natAbs p.natAbs:=by
  have:Nat.gcd p.natAbs q.natAbs=1:=c
  exact(Nat.gcd_comm _ _).trans this
 have c2:Nat.Coprime q'.natAbs p'.natAbs:=by
  have:Nat.gcd p'.natAbs q'.natAbs=1:=c'
  exact(Nat.gcd_comm _ _).trans this
 have d1:q.natAbs ∣ q'.natAbs:=c1.dvd_of_dvd_mul_left ⟨p'.natAbs,by rw[n,Nat.mul_comm]⟩
 have d2:q'.natAbs ∣ q.natAbs:=c2.dvd_of_dvd_mul_left ⟨p.natAbs,by rw[← n,Nat.mul_comm]⟩
 have qe:q.natAbs=q'.natAbs:=Nat.dvd_antisymm d1 d2
 have qq:q=q':=by omega
 subst qq
 exact⟨Int.eq_of_mul_eq_mul_right (by omega) e,rfl⟩
mutual
theorem eqT_self:∀t:T,plain t=true->eqT t t=true
 | .non,_=>rfl
 | .bl b,_=>by rw[eqTb];exact beq_self_eq_true b
 | .int i,_=>by rw[eqTe];exact decide_eq_true rfl
 | .str x,_=>by rw[eqTf];exact beq_self_eq_true x
 | .tup ts,h=>by
  simp only[plain,pd,PyData.canLay0]at h
  exact eqTs_self ts h
 | .lst ts,h=>by
  simp only[plain,pd,PyData.canLay0]at h
  exact eqTs_self ts h
 | .dct,h=>by simp[plain,pd,PyData.canLay0]at h
 | .exc _,h=>by simp[plain,pd,PyData.canLay0]at h
theorem eqTs_self:∀ts:List T,PyData.canLayAll0 (pds ts)=true->eqTs ts ts=true
 | [],_=>rfl
 | t::r,h=>by
  simp only[pds,PyData.canLayAll0,Bool.and_eq_true]at h
  rw[eqTj,Bool.and_eq_true]
  exact⟨eqT_self t h.1,eqTs_self r h.2⟩
end
def Pn(n:Nat)(t:T):Prop:=plain t=true/\dep t<=n
theorem Pn.all{n:Nat}:∀{ts:List T},(∀t∈ts,Pn n t)->PyData.canLayAll0 (pds ts)=true/\PyData.depthAll (pds ts)<=n
 | [],_=>by simp[pds,PyData.canLayAll0,PyData.depthAll]
 | t::r,h=>by
  have h1:(pd t).canLay0=true/\(pd t).depth<=n:=h t List.mem_cons_self
  have ih:=Pn.all fun x hx=>h x (List.mem_cons_of_mem _ hx)
  simp only[pds,PyData.canLayAll0,PyData.depthAll,Bool.and_eq_true]
  exact⟨⟨h1.1,ih.1⟩,by omega⟩
theorem Pn.lst{n:Nat}{ts:List T}(h:∀t∈ts,Pn n t):Pn (n + 1) (.lst ts):=by
 have:=Pn.all h
 refine⟨by simp only[plain,pd,PyData.canLay0];exact this.1,?_⟩
 simp only[dep,pd,PyData.depth]
 omega
theorem Pn.tup{n:Nat}{ts:List T}(h:∀t∈ts,Pn n t):Pn (n + 1) (.tup ts):=by
 have:=Pn.all h
 refine⟨by simp only[plain,pd,PyData.canLay0];exact this.1,?_⟩
 simp only[dep,pd,PyData.depth]
 omega
theorem Pn.int(i:Int):Pn 0 (.int i):=by
 refine⟨by simp[plain,pd,PyData.canLay0],by simp[dep,pd,PyData.depth]⟩
theorem Pn.non:Pn 0 .non:=by
 refine⟨by simp[plain,pd,PyData.canLay0],by simp[dep,pd,PyData.depth]⟩
theorem Pn.up{n m:Nat}{t:T}(h:Pn n t)(hm:n<=m):Pn m t:=⟨h.1,Nat.le_trans h.2 hm⟩
theorem Pn.ok{n m:Nat}{x y:T}(h:Pn n x)(h':Pn m y)(hn:n<=60):EqOk x y:=⟨h.1,h'.1,by have:=h.2;omega⟩
theorem Pn.self{n:Nat}{x:T}(h:Pn n x):eqT x x=true:=eqT_self x h.1
structure Rt(p q n m:Int):Prop where
 pos:0 < q
 cop:Int.gcd p q=1
 eq:p * m=n * q
theorem Frac.rt{p q a b:Int}(F:Frac p q a b):Rt p q a b:=⟨F.pos,F.cop,F.eq⟩
theorem mul_cl{a b c:Int}(h:a≠0)(e:a * b=a * c):b=c:=Int.eq_of_mul_eq_mul_left h e
theorem Rt.same{p q p' q' n m n' m':Int}(hm:m≠0)(hm':m'≠0)(e:n * m'=n' * m)(A:Rt p q n m)(B:Rt p' q' n' m'):p=p'/\q=q':=by
 refine low_uniq A.pos B.pos A.cop B.cop (mul_cl (Int.mul_ne_zero hm hm') ?_)
 have e1:=A.eq
 have e2:=B.eq
 have h1:m * m' * (p * q')=(p * m) * (m' * q'):=by grind
 have h2:m * m' * (p' * q)=(p' * m') * (m * q):=by grind
 rw[h1,h2,e1,e2]
 have h3:n * q * (m' * q')=(n * m') * (q * q'):=by grind
 rw[h3,e]
 grind
theorem Rt.sum{p q p' q' n n' m P R:Int}(A:Rt p q n m)(B:Rt p' q' n' m)(F:Frac P R (p * q' + p' * q) (q * q')):Rt P R (n + n') m:=by
 refine⟨F.pos,F.cop,mul_cl (a:=q * q') (by have:=Int.mul_pos A.pos B.pos;omega) ?_⟩
 have e1:=A.eq
 have e2:=B.eq
 have e3:=F.eq
 clear A B F
 grind
theorem Rt.neg{p q n m w:Int}(hm:0 < m)(A:Rt p q n m):(p * w < 0) ↔ (n * w < 0):=by
 have hq:=A.pos
 have e:(p * w) * m=(n * w) * q:=by have:=A.eq;grind
 constructor
 ·intro h
  have h1:=Int.mul_neg_of_neg_of_pos h hm
  rw[e]at h1
  rcases Int.lt_or_le (n * w) 0 with z|z
  ·exact z
  ·have:=Int.mul_nonneg z (Int.le_of_lt hq);omega
 ·intro h
  have h1:=Int.mul_neg_of_neg_of_pos h hq
  rw[← e]at h1
  rcases Int.lt_or_le (p * w) 0 with z|z
  ·exact z
  ·have:=Int.mul_nonneg z (Int.le_of_lt hm);omega
def frG(n m:Int):Int:=if m < 0 then -(Int.gcd n m:Int) else (Int.gcd n m:Int)
def frN(n m:Int):Int:=n.fdiv (frG n m)
def frD(n m:Int):Int:=m.fdiv (frG n m)
def fr(n m:Int):T:=.tup [.int (frN n m),.int (frD n m)]
structure Two(k:Nat)(a b c d:Int):Prop where
 hb:b≠0
 hd:d≠0
 la:Lim k a
 lb:Lim k b
 lc:Lim k c
 ld:Lim k d
theorem Two.mono{k k':Nat}{a b c d:Int}(h:Two k a b c d)(hk:k<=k'):Two k' a b c d:=⟨h.hb,h.hd,h.la.mono hk,h.lb.mono hk,h.lc.mono hk,h.ld.mono hk⟩
abbrev tri(a b c:Int):T:=.tup [.int a,.int b,.int c]
abbrev Tr:=Int×Int×Int
abbrev trT(d:Tr):T:=tri d.1 d.2.1 d.2.2
abbrev Lim3(k:Nat)(u v w:Int):Prop:=Lim k u/\Lim k v/\Lim k w
abbrev LimT(k:Nat)(d:Tr):Prop:=Lim3 k d.1 d.2.1 d.2.2
theorem Lim3.mono{k k':Nat}{a b c:Int}(h:Lim3 k a b c)(hk:k<=k'):Lim3 k' a b c:=⟨h.1.mono hk,h.2.1.mono hk,h.2.2.mono hk⟩
abbrev crs(a b:Tr):Tr:=(a.2.1 * b.2.2 - a.2.2 * b.2.1,a.2.2 * b.1 - a.1 * b.2.2,a.1 * b.2.1 - a.2.1 * b.1)
abbrev dotI(a b:Tr):Int:=a.1 * b.1 + a.2.1 * b.2.1 + a.2.2 * b.2.2
abbrev pt(t:Tr)(m:Int):T:=.tup [fr t.1 m,fr t.2.1 m,fr t.2.2 m]
abbrev hpl(h:Tr):T:=.tup [fr h.1 h.2.2,fr h.2.1 h.2.2]
abbrev ptl(c s o:Tr):T:=.tup [trT c,trT s,trT o]
theorem lim_crs{m n k:Nat}{a b:Tr}(ha:LimT m a)(hb:LimT n b)(hk:m + n + 1<=k):LimT k (crs a b):=by
 have z:∀{p q r s:Int},Lim m p->Lim m q->Lim n r->Lim n s->Lim k (p * s - q * r):=fun hp hq hr hs=>((hp.mul hs).sub (hq.mul hr)).mono (by simp;omega)
 exact⟨z ha.2.1 ha.2.2 hb.2.1 hb.2.2,z ha.2.2 ha.1 hb.2.2 hb.1,z ha.1 ha.2.1 hb.1 hb.2.1⟩
theorem eqOk_tri(a b c d e f:Int):EqOk (tri a b c) (tri d e f):=eqOk_tup [a,b,c] [d,e,f]
theorem eqT_tri(a b c d e f:Int):eqT (tri a b c) (tri d e f)=decide (a=d/\b=e/\c=f):=by
 simp[eqT,eqTs]
structure Sg(n:Nat)(z:Str):Prop where
 len:z.length<=n
 ok:PyData.strOk z=true
theorem strOk_app(a b:Str):PyData.strOk (a++b)=(PyData.strOk a&&PyData.strOk b):=by
 unfold PyData.strOk
 rw[Str.cps_append]
 exact Array.all_append
theorem Sg.app{m n k:Nat}{a b:Str}(ha:Sg m a)(hb:Sg n b)(h:m + n<=k):Sg k (a++b) :=
 ⟨by rw[Str.length_append];have:=ha.len;have:=hb.len;omega,by rw[strOk_app,ha.ok,hb.ok];rfl⟩
theorem Sg.mono{m n:Nat}{a:Str}(ha:Sg m a)(h:m<=n):Sg n a:=⟨Nat.le_trans ha.len h,ha.ok⟩
theorem join_eq(sep:Str)(zs:List Str):Txt.join sep zs=Str.join sep zs:=StrLaws.glued_eq_join sep zs
theorem Sg.join'{n m:Nat}{sep:Str}(hs:Sg m sep):∀{zs:List Str},(∀z∈zs,Sg n z)->Sg (zs.length * (n + m)) (Str.join sep zs)
 | [],_=>⟨by show (Str.empty).length<=_;exact Nat.zero_le _,by show PyData.strOk Str.empty=true;decide +kernel⟩
 | [z],h=>(h z List.mem_cons_self).mono (by simp)
 | z::y::r,h=>by
  have ih:=Sg.join' hs (zs:=y::r) fun x hx=>h x (List.mem_cons_of_mem _ hx)
  show Sg _ (z++sep++Str.join sep (y::r))
  have h1:=(h z List.mem_cons_self).app hs (Nat.le_refl _)
  refine h1.app ih ?_
  simp only[List.length_cons,Nat.add_mul,Nat.one_mul]
  omega
theorem Sg.join{n m k:Nat}{sep:Str}{zs:List Str}(hs:Sg m sep)(h:∀z∈zs,Sg n z)(hk:zs.length * (n + m)<=k):Sg k (Txt.join sep zs):=by
 rw[join_eq]
 exact(Sg.join' hs h).mono hk
theorem sum_len{n:Nat}:∀{zs:List Str},(∀z∈zs,Sg n z)->(zs.map (·.length)).sum<=zs.length * n
 | [],_=>by simp
 | z::r,h=>by
  have:=sum_len fun x hx=>h x (List.mem_cons_of_mem _ hx)
  have:=(h z List.mem_cons_self).len
  simp only[List.map_cons,List.sum_cons,List.length_cons,Nat.add_mul,Nat.one_mul]
  omega
theorem join_fits{n m:Nat}{sep:Str}{zs:List Str}(hs:Sg m sep)(h:∀z∈zs,Sg n z)(hk:zs.length * n + zs.length * m<=16777216):(zs.map (·.length)).sum + zs.length * sep.length<=16777216:=by
 have h1:=sum_len h
 have h2:=Nat.mul_le_mul_left zs.length hs.len
 omega
theorem Sg.slice{n:Nat}{z:Str}(h:Sg n z)(lo hi:Option Int):Sg n (Txt.slice z lo hi):=by
 refine⟨Nat.le_trans (Txt.slice_le z lo hi) h.len,?_⟩
 unfold Txt.slice
 split
 ·exact h.ok
 ·have ok:=h.ok
  unfold PyData.strOk at ok ⊢
  rw[Array.all_eq_true']at ok ⊢
  intro x hx
  rw[List.mem_toArray,List.mem_filterMap]at hx
  obtain⟨i,_,hi⟩:=hx
  exact ok x (Array.mem_of_getElem? hi)
abbrev Nm(i:Int):Prop:=i.natAbs<=1000000000
abbrev NmT(t:Tr):Prop:=Nm t.1/\Nm t.2.1/\Nm t.2.2
abbrev Wl:=Str×Tr×Tr×Tr
abbrev Dl:=Wl×Tr
def sunE(x:Int×Tr):T:=.tup [.int x.1,trT x.2]
def walE(x:Wl):T:=.tup [.str x.1,ptl x.2.1 x.2.2.1 x.2.2.2]
def dilE(x:Dl):T:=.tup [.str x.1.1,ptl x.1.2.1 x.1.2.2.1 x.1.2.2.2,trT x.2]
abbrev SunOk(x:Int×Tr):Prop:=Nm x.1/\NmT x.2
abbrev WlOk(x:Wl):Prop:=Sg 14 x.1/\NmT x.2.1/\NmT x.2.2.1/\NmT x.2.2.2
abbrev DlOk(x:Dl):Prop:=WlOk x.1/\NmT x.2
structure Yd where
 suns:List (Int×Tr)
 wals:List Wl
 dils:List Dl
def ydL(y:Yd):List T:=[.lst (y.suns.map sunE),.lst (y.wals.map walE),.lst (y.dils.map dilE)]
abbrev ydT(y:Yd):T:=.tup (ydL y)
structure YdOk(y:Yd):Prop where
 ls:y.suns.length<=100
 lw:y.wals.length<=50
 ld:y.dils.length<=50
 lt:y.wals.length + y.dils.length<=45
 os:∀x∈y.suns,SunOk x
 ow:∀x∈y.wals,WlOk x
 od:∀x∈y.dils,DlOk x
theorem join_ok{sep:Str}{m n:Nat}{zs:List Str}{ts:List T}{Q:T->Prop}(hs:Sg m sep)(e:strsOf ts=some zs)(h:∀z∈zs,Sg n z)(hk:zs.length * n + zs.length * m<=16777216)(q:Q (.str (Txt.join sep zs))):rJoinT sep (.lst ts) Q:=by
 unfold rJoinT
 simp only
 rw[e]
 exact⟨join_fits hs h hk,q⟩
def Z00:SpT:=fun ts Q=>∃(c k many:Int),ts=[.int c,.int k,.int many]/\0<=k/\k<=1000/\1<=many/\many<=10 ^ 12/\∀r:Int,0<=r->r < many->Q (.int r)
theorem Z3V:∀ts Q,Z00 ts Q->ts.length=3:=by rintro ts Q ⟨_,_,_,e,_⟩;subst e;rfl
def Z1q:WS :=
 (sSet 4 (w2 rDivT (wVar 4) (w2 rPowT (wC (.int 10)) (wC (.int 10)))))
def Z1r:WS :=
 (sSeq (sSet 3 (w2 rModT (w2 rMulT (w2 rAddT (w2 rAddT (w2 rAddT (w2 rModT (wVar 0) (wC (.int 2147483647))) (w2 rMulT (w2 rMulT (wC (.int 7919)) (wVar 1)) (wVar 1))) (w2 rMulT (wC (.int 31)) (wVar 1))) (wC (.int 1))) (wC (.int 48271))) (wC (.int 2147483647))))
  (sSeq (sSet 3 (w2 rModT (w2 rAddT (w2 rAddT (w2 rMulT (wVar 3) (wVar 3)) (w2 rMulT (wC (.int 69621)) (wVar 1))) (wC (.int 7))) (wC (.int 2147483629))))
  (sRet (w2 rModT (w2 rModT (w2 rMulT (wVar 3) (wVar 3)) (wC (.int 2147483587))) (wVar 2)))))
def Z39:WS :=
 (sSeq (sIf (tCmpT cGeT (wVar 0) (w2 rPowT (wC (.int 10)) (wC (.int 18)))) (sSeq (sSet 4 (wVar 0))
  (sSeq (sFor (iRange1 (aCons (wVar 1) aNil)) (gN 5) Z1q)
  (sIf (tCmpT cGtT (wVar 4) (wC (.int 0))) (sRet (w2 rModT (w2 rModT (wVar 4) (w2 rPowT (wC (.int 10)) (wC (.int 10)))) (wVar 2))) sNext))) sNext)
  Z1r)
theorem draw_loop{D:DT}{c k many:Int}{s3:Slot}:∀(n:Nat)(lo v:Int)(s5:Slot),(∀v s5,D.nx [.val (.int c),.val (.int k),.val (.int many),s3,.val (.int v),s5]) →
  forT (gN 5) Z1q (rangeT lo n) D [.val (.int c),.val (.int k),.val (.int many),s3,.val (.int v),s5]
 | 0,lo,v,s5,h=>by
  simp only[rangeT,forT]
  exact h _ _
 | n + 1,lo,v,s5,h=>by
  have ih:=fun v s5=>draw_loop (D:=D) (c:=c) (k:=k) (many:=many) (s3:=s3) n (lo + 1) v s5 h
  have cp:=cpow10 10 (by decide)
  have dv:DivOk (10 ^ Int.toNat 10):=divOk (by decide) (Lim.of (n:=11) (by decide) (by decide))
  simp only[rangeT,forT]
  generalize forT (gN 5) Z1q (rangeT (lo + 1) n) D=F at ih ⊢
  unfold Z1q
  walk_at "go"
  exact ih _ _
theorem draw_k0{Q:T->Prop}{c k many:Int}{s3 s4 s5:Slot}(h0:0<=k)(h1:k<=1000)(m0:1<=many)(h:∀r:Int,0<=r->r < many->Q (.int r)):Z1r {nx:=fun _=>Q .non,rt:=Q} [.val (.int c),.val (.int k),.val (.int many),s3,s4,s5]:=by
 have lk:Lim 4 k:=Lim.of (by omega) (by omega)
 have l7:Lim 4 (7919:Int):=Lim.of (by decide) (by decide)
 have l31:Lim 2 (31:Int):=Lim.of (by decide) (by decide)
 have l48:Lim 5 (48271:Int):=Lim.of (by decide) (by decide)
 have l69:Lim 5 (69621:Int):=Lim.of (by decide) (by decide)
 have f1:=fmod_pos c (b:=2147483647) (by decide)
 have a1:=(l7.mul lk).mul lk
 have a2:=l31.mul lk
 have a3:Lim 14 (c.fmod 2147483647 + 7919 * k * k + 31 * k + 1):=by
  have:=a1.bd
  have:=a2.bd
  exact Lim.of (by omega) (by omega)
 unfold Z1r
 walk_at "go"
 refine⟨mulOk (l7.mul lk) lk,mulOk l31 lk,mulOk a3 l48,by decide,?_⟩
 generalize ((c.fmod 2147483647 + 7919 * k * k + 31 * k + 1) * 48271)=u
 have f2:=fmod_pos u (b:=2147483647) (by decide)
 have a4:Lim 10 (u.fmod 2147483647):=Lim.of (by omega) (by omega)
 walk_at "go"
 generalize (u.fmod 2147483647 * u.fmod 2147483647 + 69621 * k + 7)=v
 have f3:=fmod_pos v (b:=2147483629) (by decide)
 have a5:Lim 10 (v.fmod 2147483629):=Lim.of (by omega) (by omega)
 walk_at "go"
 refine⟨by omega,?_⟩
 generalize ((v.fmod 2147483629 * v.fmod 2147483629).fmod 2147483587)=x
 have f4:=fmod_pos x (b:=many) (by omega)
 exact h _ f4.1 f4.2
theorem Z4f:∀ts Q,Z00 ts Q->Z39 {nx:=fun _=>Q .non,rt:=Q} (startT 6 ts):=by
 rintro _ Q ⟨c,k,many,rfl,h0,h1,m0,m1,h⟩
 have cp:=cpow10 10 (by decide)
 have cp18:=cpow10 18 (by decide)
 have fin:∀s3 s4 s5:Slot,Z1r {nx:=fun _=>Q .non,rt:=Q} [.val (.int c),.val (.int k),.val (.int many),s3,s4,s5]:=fun s3 s4 s5=>draw_k0 h0 h1 m0 h
 unfold Z39
 obtain⟨W0,hW0⟩:∃W,W=Z1q:=⟨_,rfl⟩
 obtain⟨W1,hW1⟩:∃W,W=Z1r:=⟨_,rfl⟩
 rw[← hW0,← hW1]
 rw[← hW1]at fin
 walk_at "go"
 refine⟨fun _=>?_,fun _=>fin _ _ _⟩
 walk_at "go"
 refine⟨by omega,?_⟩
 rw[hW0]
 refine draw_loop _ _ _ _ fun v s5=>?_
 walk_at "go"
 refine⟨fun _=>?_,fun _=>fin _ _ _⟩
 walk_at "go"
 refine⟨by omega,?_⟩
 have f4:=fmod_pos (v.fmod (10 ^ Int.toNat 10)) (b:=many) (by omega)
 exact h _ f4.1 f4.2
abbrev Wi(b i:Int):Prop:=-b<=i/\i<=b
abbrev WiT(b:Int)(t:Tr):Prop:=Wi b t.1/\Wi b t.2.1/\Wi b t.2.2
abbrev E9:Int:=999999980
def Z0b:SpT:=fun ts Q=>∃(ns:List Int) (k:Int),ts=[.lst (ns.map T.int),.int k]/\0<=k/\∀v:Int,Q (.int v)
theorem Z3a:∀ts Q,Z0b ts Q->ts.length=2:=by rintro ts Q ⟨_,_,e,_⟩;subst e;rfl
def Z27:WS :=
 (sSeq (sIf (tCmpT cLtT (wVar 1) (wCB rLenT (aCons (wVar 0) aNil))) (sRet (w2 rIxTT (wVar 0) (wVar 1))) sNext)
  (sRet (wC (.int 0))))
theorem Z3m:∀ts Q,Z0b ts Q->Z27 {nx:=fun _=>Q .non,rt:=Q} (startT 2 ts):=by
 rintro _ Q ⟨ns,k,rfl,h0,h⟩
 unfold Z27
 walk_at "go"
 rw[List.length_map]
 refine⟨fun z=>?_,fun z=>?_⟩
 ·obtain⟨v,_,e⟩:=atI_map h0 (of_decide_eq_true z)
  walk_at "go"
  rw[e]
  exact h v
 ·walk_at "go"
  exact h 0
def Z0K:SpT:=fun ts Q=>∃c k:Int,ts=[.int c,.int k]/\0<=k/\k<=400/\∀r:Int,Wi E9 r->Q (.int r)
theorem Z3n:∀ts Q,Z0K ts Q->ts.length=2:=by rintro ts Q ⟨_,_,e,_⟩;subst e;rfl
def Z2o:WS :=
 (sSeq (sSet 2 (wCall Z00 (aCons (wVar 0) (aCons (w2 rMulT (wC (.int 2)) (wVar 1)) (aCons (wC (.int 9)) aNil)))))
  (sSeq (sIf (tCmpT cLtT (wVar 2) (wC (.int 6))) (sRet (w2 rSubT (wCall Z00 (aCons (wVar 0) (aCons (w2 rAddT (w2 rMulT (wC (.int 2)) (wVar 1)) (wC (.int 1))) (aCons (wC (.int 9)) aNil)))) (wC (.int 4)))) sNext)
  (sSeq (sIf (tCmpT cLtT (wVar 2) (wC (.int 8))) (sRet (w2 rSubT (wCall Z00 (aCons (wVar 0) (aCons (w2 rAddT (w2 rMulT (wC (.int 2)) (wVar 1)) (wC (.int 1))) (aCons (wC (.int 201)) aNil)))) (wC (.int 100)))) sNext)
  (sRet (w2 rMulT (w2 rIxTT (wLst (aCons (wC (.int 1)) (aCons (wNeg (wC (.int 1))) aNil))) (wCall Z00 (aCons (wVar 0) (aCons (w2 rAddT (w2 rMulT (wC (.int 2)) (wVar 1)) (wC (.int 1))) (aCons (wC (.int 2)) aNil))))) (w2 rSubT (w2 rSubT (w2 rPowT (wC (.int 10)) (wC (.int 9))) (w2 rDivT (wCall Z00 (aCons (wVar 0) (aCons (w2 rMulT (wC (.int 2)) (wVar 1)) (aCons (wC (.int 900)) aNil)))) (wC (.int 9)))) (wC (.int 20))))))))
theorem Z3A:∀ts Q,Z0K ts Q->Z2o {nx:=fun _=>Q .non,rt:=Q} (startT 3 ts):=by
 rintro _ Q ⟨c,k,rfl,h0,h1,h⟩
 have l2:Lim 1 (2:Int):=Lim.of (by decide) (by decide)
 have lk:Lim 3 k:=Lim.of (by omega) (by omega)
 have c9:=cpow10 9 (by decide)
 have d9:DivOk (9:Int):=divOk (by decide) (Lim.of (n:=1) (by decide) (by decide))
 unfold Z2o
 walk_at "go"
 refine⟨c,2 * k,9,rfl,by omega,by omega,by decide,by decide,fun r r0 r1=>?_⟩
 walk_at "go"
 refine⟨fun z=>?_,fun z=>?_⟩
 ·walk_at "go"
  refine⟨c,2 * k + 1,9,rfl,by omega,by omega,by decide,by decide,fun x x0 x1=>?_⟩
  exact h _ ⟨by show -999999980<=x - 4;omega,by show x - 4<=999999980;omega⟩
 ·walk_at "go"
  refine⟨fun z=>?_,fun z=>?_⟩
  ·walk_at "go"
   refine⟨c,2 * k + 1,201,rfl,by omega,by omega,by decide,by decide,fun x x0 x1=>?_⟩
   exact h _ ⟨by show -999999980<=x - 100;omega,by show x - 100<=999999980;omega⟩
  ·walk_at "go"
   refine⟨c,2 * k + 1,2,rfl,by omega,by omega,by decide,by decide,fun x x0 x1=>?_⟩
   have hx:x=0∨x=1:=by omega
   have fin:∀u:Int,Lim 1 u->(u=1∨u=-1)->(∃a b d:Int,[T.int c,T.int (2 * k),T.int 900]=[.int a,.int b,.int d]/\0<=b/\b<=1000/\1<=d/\d<=10 ^ 12/\∀r:Int,0<=r->r < d->DivOk (9:Int)/\MulOk u (10 ^ Int.toNat 9 - r.fdiv 9 - 20)/\Q (.int (u * (10 ^ Int.toNat 9 - r.fdiv 9 - 20)))):=fun u lu hu=>by
    refine⟨c,2 * k,900,rfl,by omega,by omega,by decide,by decide,fun y y0 y1=>?_⟩
    have e:y.fdiv 9=y / 9:=Int.fdiv_eq_ediv_of_nonneg _ (by decide)
    have p9:(10 ^ Int.toNat 9:Int)=1000000000:=by decide
    refine⟨d9,mulOkL (lu.mono (by decide)),h _ ?_⟩
    rw[e,p9]
    rcases hu with rfl|rfl
    ·exact⟨by show -999999980<=_;omega,by show _<=(999999980:Int);omega⟩
    ·exact⟨by show -999999980<=_;omega,by show _<=(999999980:Int);omega⟩
   rcases hx with rfl|rfl
   ·walk_at "go"
    exact fin 1 (Lim.of (by decide) (by decide)) (.inl rfl)
   ·walk_at "go"
    exact fin (-1) (Lim.of (by decide) (by decide)) (.inr rfl)
def Z0q:SpT:=fun ts Q=>∃c k:Int,ts=[.int c,.int k]/\0<=k/\k<=300/\∀t:Tr,WiT E9 t->Q (trT t)
theorem Z3o:∀ts Q,Z0q ts Q->ts.length=2:=by rintro ts Q ⟨_,_,e,_⟩;subst e;rfl
def Z2p:WS :=
 (sRet (wTup (aCons (wCall Z0K (aCons (wVar 0) (aCons (wVar 1) aNil))) (aCons (wCall Z0K (aCons (wVar 0) (aCons (w2 rAddT (wVar 1) (wC (.int 1))) aNil))) (aCons (wCall Z0K (aCons (wVar 0) (aCons (w2 rAddT (wVar 1) (wC (.int 2))) aNil))) aNil)))))
theorem Z3B:∀ts Q,Z0q ts Q->Z2p {nx:=fun _=>Q .non,rt:=Q} (startT 2 ts):=by
 rintro _ Q ⟨c,k,rfl,h0,h1,h⟩
 unfold Z2p
 walk_at "go"
 refine⟨c,k,rfl,h0,by omega,fun x hx=>?_⟩
 walk_at "go"
 refine⟨c,k + 1,rfl,by omega,by omega,fun y hy=>?_⟩
 walk_at "go"
 refine⟨c,k + 2,rfl,by omega,by omega,fun z hz=>?_⟩
 walk_at "go"
 exact h (x,y,z) ⟨hx,hy,hz⟩
theorem Wi.lim{i:Int}(h:Wi E9 i):Lim 10 i:=by
 have h1:-999999980<=i:=h.1
 have h2:i<=999999980:=h.2
 exact Lim.of (by omega) (by omega)
theorem WiT.lim{t:Tr}(h:WiT E9 t):LimT 10 t:=⟨Wi.lim h.1,Wi.lim h.2.1,Wi.lim h.2.2⟩
theorem Wi.nm{b i:Int}(h:Wi b i)(hb:b<=1000000000):Nm i:=by
 have h1:=h.1
 have h2:=h.2
 show i.natAbs<=1000000000
 omega
theorem WiT.nm{b:Int}{t:Tr}(h:WiT b t)(hb:b<=1000000000):NmT t:=⟨Wi.nm h.1 hb,Wi.nm h.2.1 hb,Wi.nm h.2.2 hb⟩
def Z0W:SpT:=fun ts Q=>∃a b:Tr,ts=[trT a,trT b]/\LimT 100 a/\LimT 100 b/\Q (trT (crs a b))
theorem Z3C:∀ts Q,Z0W ts Q->ts.length=2:=by rintro ts Q ⟨_,_,e,_⟩;subst e;rfl
def Z2F:WS :=
 (sSeq (sAsg (gT 3 (gsC (gN 2) (gsC (gN 3) (gsC (gN 4) gs0)))) (wVar 0))
  (sSeq (sAsg (gT 3 (gsC (gN 5) (gsC (gN 6) (gsC (gN 7) gs0)))) (wVar 1))
  (sRet (wTup (aCons (w2 rSubT (w2 rMulT (wVar 3) (wVar 7)) (w2 rMulT (wVar 4) (wVar 6))) (aCons (w2 rSubT (w2 rMulT (wVar 4) (wVar 5)) (w2 rMulT (wVar 2) (wVar 7))) (aCons (w2 rSubT (w2 rMulT (wVar 2) (wVar 6)) (w2 rMulT (wVar 3) (wVar 5))) aNil)))))))
theorem Z3W:∀ts Q,Z0W ts Q->Z2F {nx:=fun _=>Q .non,rt:=Q} (startT 8 ts):=by
 rintro _ Q ⟨a,b,rfl,⟨a1,a2,a3⟩,⟨b1,b2,b3⟩,h⟩
 unfold Z2F
 walk_at "go"
 exact h
def Z1S:SpT:=fun ts Q=>∃a b:Tr,ts=[trT a,trT b]/\LimT 100 a/\LimT 100 b/\Q (.int (dotI a b))
theorem Z4g:∀ts Q,Z1S ts Q->ts.length=2:=by rintro ts Q ⟨_,_,e,_⟩;subst e;rfl
def Z3D:WS :=
 (sRet (w2 rAddT (w2 rAddT (w2 rMulT (w2 rIxTT (wVar 0) (wC (.int 0))) (w2 rIxTT (wVar 1) (wC (.int 0)))) (w2 rMulT (w2 rIxTT (wVar 0) (wC (.int 1))) (w2 rIxTT (wVar 1) (wC (.int 1))))) (w2 rMulT (w2 rIxTT (wVar 0) (wC (.int 2))) (w2 rIxTT (wVar 1) (wC (.int 2))))))
theorem Z4q:∀ts Q,Z1S ts Q->Z3D {nx:=fun _=>Q .non,rt:=Q} (startT 2 ts):=by
 rintro _ Q ⟨a,b,rfl,⟨a1,a2,a3⟩,⟨b1,b2,b3⟩,h⟩
 unfold Z3D
 walk_at "go"
 exact h
def Z1E:SpT:=fun ts Q=>∃c k:Int,ts=[.int c,.int k]/\0<=k/\k<=200/\∀x y z:Tr,WiT E9 x->WiT E9 y->WiT E9 z->Q (ptl x y z)
theorem Z3E:∀ts Q,Z1E ts Q->ts.length=2:=by rintro ts Q ⟨_,_,e,_⟩;subst e;rfl
def Z1v:WS :=
 (sIf (tCmpT cEqT (wCall Z0W (aCons (wVar 2) (aCons (wVar 3) aNil))) (wTup (aCons (wC (.int 0)) (aCons (wC (.int 0)) (aCons (wC (.int 0)) aNil))))) (sSet 3 (wVar 4)) sNext)
def Z1w:WS :=
 (sSeq (sSet 3 (wCall Z0q (aCons (wVar 0) (aCons (w2 rAddT (wVar 1) (wC (.int 6))) aNil))))
  (sSeq (sFor (iSeq (wLst (aCons (wTup (aCons (wC (.int 0)) (aCons (wC (.int 1)) (aCons (wC (.int 0)) aNil)))) (aCons (wTup (aCons (wC (.int 0)) (aCons (wC (.int 0)) (aCons (wC (.int 1)) aNil)))) (aCons (wTup (aCons (wC (.int 1)) (aCons (wC (.int 0)) (aCons (wC (.int 0)) aNil)))) aNil))))) (gN 4) Z1v)
  (sRet (wTup (aCons (wCall Z0q (aCons (wVar 0) (aCons (wVar 1) aNil))) (aCons (wVar 2) (aCons (wVar 3) aNil)))))))
def Z2G:WS :=
 (sSeq (sSet 2 (wCall Z0q (aCons (wVar 0) (aCons (w2 rAddT (wVar 1) (wC (.int 3))) aNil))))
  (sSeq (sIf (tCmpT cEqT (wVar 2) (wTup (aCons (wC (.int 0)) (aCons (wC (.int 0)) (aCons (wC (.int 0)) aNil))))) (sSet 2 (wTup (aCons (wC (.int 1)) (aCons (wC (.int 0)) (aCons (wC (.int 0)) aNil))))) sNext)
  Z1w))
theorem plate_b0{D:DT}{s o u:Tr}{s0 s1:Slot}(ls:WiT E9 s)(lo:WiT E9 o)(lu:WiT E9 u)(h:∀o',WiT E9 o'->D.nx [s0,s1,.val (trT s),.val (trT o'),.val (trT u)]) :
  Z1v D [s0,s1,.val (trT s),.val (trT o),.val (trT u)]:=by
 unfold Z1v
 walk_at "go"
 refine⟨s,o,rfl,(WiT.lim ls).mono (by decide),(WiT.lim lo).mono (by decide),?_⟩
 walk_at "go"
 refine⟨eqOk_tri _ _ _ _ _ _,?_⟩
 rw[eqT_tri]
 refine⟨fun z=>?_,fun z=>?_⟩
 ·walk_at "go"
  exact h u lu
 ·walk_at "go"
  exact h o lo
theorem w100{a b c:Int}(h:(a=0∨a=1)/\(b=0∨b=1)/\(c=0∨c=1)):WiT E9 (a,b,c):=by
 have w:∀i:Int,(i=0∨i=1)->Wi E9 i:=fun i hi=>by rcases hi with rfl|rfl<;>exact⟨by decide,by decide⟩
 exact⟨w _ h.1,w _ h.2.1,w _ h.2.2⟩
theorem plate_k0{Q:T->Prop}{c k:Int}{s:Tr}{s3 s4:Slot}(h0:0<=k)(h1:k<=200)(ls:WiT E9 s)(h:∀x y z:Tr,WiT E9 x->WiT E9 y->WiT E9 z->Q (ptl x y z)) :
  Z1w {nx:=fun _=>Q .non,rt:=Q} [.val (.int c),.val (.int k),.val (trT s),s3,s4]:=by
 unfold Z1w
 obtain⟨W0,hW0⟩:∃W,W=Z1v:=⟨_,rfl⟩
 rw[← hW0]
 walk_at "go"
 refine⟨c,k + 6,rfl,by omega,by omega,fun o lo=>?_⟩
 walk_at "go"
 refine Eq.mpr (congrFun (congrFun hW0 _) _) ?_
 refine plate_b0 (u:=(0,1,0)) ls lo (w100 (by decide)) fun o1 l1=>?_
 walk_at "go"
 refine Eq.mpr (congrFun (congrFun hW0 _) _) ?_
 refine plate_b0 (u:=(0,0,1)) ls l1 (w100 (by decide)) fun o2 l2=>?_
 walk_at "go"
 refine Eq.mpr (congrFun (congrFun hW0 _) _) ?_
 refine plate_b0 (u:=(1,0,0)) ls l2 (w100 (by decide)) fun o3 l3=>?_
 walk_at "go"
 refine⟨c,k,rfl,h0,by omega,fun x lx=>?_⟩
 walk_at "go"
 exact h x s o3 lx ls l3
theorem Z3X:∀ts Q,Z1E ts Q->Z2G {nx:=fun _=>Q .non,rt:=Q} (startT 5 ts):=by
 rintro _ Q ⟨c,k,rfl,h0,h1,h⟩
 have fin:=fun {s:Tr} (ls:WiT E9 s)=>plate_k0 (Q:=Q) (c:=c) (k:=k) (s3:=.no) (s4:=.no) h0 h1 ls h
 unfold Z2G
 obtain⟨W1,hW1⟩:∃W,W=Z1w:=⟨_,rfl⟩
 rw[← hW1]at fin ⊢
 walk_at "go"
 refine⟨c,k + 3,rfl,by omega,by omega,fun s ls=>?_⟩
 walk_at "go"
 refine⟨eqOk_tri _ _ _ _ _ _,?_⟩
 rw[eqT_tri]
 refine⟨fun z=>?_,fun z=>?_⟩
 ·walk_at "go"
  exact fin (s:=(1,0,0)) (w100 (by decide))
 ·walk_at "go"
  exact fin ls
def Z1F:SpT:=fun ts Q=>∃f t:Tr,ts=[trT f,trT t]/\LimT 50 f/\WiT 4 t/\∀r:Tr,WiT 10 r->Q (trT r)
theorem Z3F:∀ts Q,Z1F ts Q->ts.length=2:=by rintro ts Q ⟨_,_,e,_⟩;subst e;rfl
def Z1x:WS :=
 (sIf (tCmpT cEqT (wCall Z1S (aCons (wVar 0) (aCons (wVar 1) aNil))) (wC (.int 0))) (sSeq (sSet 3 (w2 rIxTT (wLst (aCons (wC (.int 1)) (aCons (wNeg (wC (.int 1))) aNil))) (wCB rIntT (aCons (wCmp cLtT (wCall Z1S (aCons (wVar 0) (aCons (wVar 2) aNil))) (wC (.int 0))) aNil))))
  (sSet 1 (wCB rTupleT (aCons (wComp (iZip (aCons (wVar 1) (aCons (wVar 2) aNil))) (gT 2 (gsC (gN 0) (gsC (gN 1) gs0))) tTrue (w2 rAddT (wVar 0) (w2 rMulT (wVar 2) (wVar 1))) 2 [3]) aNil)))) sNext)
def Z1y:WS :=
 (sSeq (sFor (iSeq (wLst (aCons (wTup (aCons (wC (.int 0)) (aCons (wC (.int 0)) (aCons (wC (.int 1)) aNil)))) (aCons (wTup (aCons (wC (.int 0)) (aCons (wC (.int 1)) (aCons (wC (.int 0)) aNil)))) (aCons (wTup (aCons (wC (.int 1)) (aCons (wC (.int 0)) (aCons (wC (.int 0)) aNil)))) aNil))))) (gN 2) Z1x)
  (sRet (wVar 1)))
def Z2H:WS :=
 (sSeq (sIf (tCmpT cLtT (wCall Z1S (aCons (wVar 0) (aCons (wVar 1) aNil))) (wC (.int 0))) (sSet 1 (wTup (aCons (w2 rSubT (wC (.int 0)) (w2 rIxTT (wVar 1) (wC (.int 0)))) (aCons (w2 rSubT (wC (.int 0)) (w2 rIxTT (wVar 1) (wC (.int 1)))) (aCons (w2 rSubT (wC (.int 0)) (w2 rIxTT (wVar 1) (wC (.int 2)))) aNil))))) sNext)
  Z1y)
theorem wi_lim{b i:Int}(h:Wi b i)(hb:b<=20):Lim 10 i:=Lim.of (by have:=h.1;omega) (by have:=h.2;omega)
theorem wiT_lim{b:Int}{t:Tr}(h:WiT b t)(hb:b<=20):LimT 10 t:=⟨wi_lim h.1 hb,wi_lim h.2.1 hb,wi_lim h.2.2 hb⟩
theorem wi_up{b c:Int}{t:Tr}(h:WiT b t)(hb:b<=c):WiT c t:=by
 obtain⟨⟨a1,a2⟩,⟨b1,b2⟩,c1,c2⟩:=h
 exact⟨⟨by omega,by omega⟩,⟨by omega,by omega⟩,by omega,by omega⟩
theorem ahead_b0{D:DT}{f t u:Tr}{b:Int}{s3:Slot}(lf:LimT 50 f)(lt:WiT b t)(hb:b<=9)(hu:(u.1=0∨u.1=1)/\(u.2.1=0∨u.2.1=1)/\(u.2.2=0∨u.2.2=1))(h:∀t' s3,WiT (b + 1) t'->D.nx [.val (trT f),.val (trT t'),.val (trT u),s3]) :
  Z1x D [.val (trT f),.val (trT t),.val (trT u),s3]:=by
 have lu:LimT 10 u:=(WiT.lim (w100 hu))
 unfold Z1x
 walk_at "go"
 refine⟨f,t,rfl,lf.mono (by decide),(wiT_lim lt (by omega)).mono (by decide),?_⟩
 walk_at "go"
 refine⟨fun z=>?_,fun z=>?_⟩
 ·walk_at "go"
  refine⟨f,u,rfl,lf.mono (by decide),lu.mono (by decide),?_⟩
  have fin:∀g:Int,(g=1∨g=-1)->WiT (b + 1) (t.1 + g * u.1,t.2.1 + g * u.2.1,t.2.2 + g * u.2.2):=fun g hg=>by
   obtain⟨⟨a1,a2⟩,⟨b1,b2⟩,c1,c2⟩:=lt
   obtain⟨u1,u2,u3⟩:=hu
   have one:∀x y:Int,-b<=x->x<=b->(y=0∨y=1)->Wi (b + 1) (x + g * y):=fun x y h1 h2 hy=>by
    rcases hg with rfl|rfl<;>rcases hy with rfl|rfl<;>exact⟨by omega,by omega⟩
   exact⟨one _ _ a1 a2 u1,one _ _ b1 b2 u2,one _ _ c1 c2 u3⟩
  have mo:∀g x:Int,(g=1∨g=-1)->MulOk g x:=fun g x hg=>mulOkL (by rcases hg with rfl|rfl<;>exact Lim.of (by decide) (by decide))
  generalize dotI f u=q
  by_cases zn:q < 0
  ·walk_at "go"
   rw[decide_eq_true zn]
   walk_at "go"
   refine⟨mo (-1) _ (.inr rfl),?_⟩
   walk_at "go"
   refine⟨mo (-1) _ (.inr rfl),?_⟩
   walk_at "go"
   refine⟨mo (-1) _ (.inr rfl),?_⟩
   walk_at "go"
   exact h _ _ (fin (-1) (.inr rfl))
  ·walk_at "go"
   rw[decide_eq_false zn]
   walk_at "go"
   refine⟨mo 1 _ (.inl rfl),?_⟩
   walk_at "go"
   refine⟨mo 1 _ (.inl rfl),?_⟩
   walk_at "go"
   refine⟨mo 1 _ (.inl rfl),?_⟩
   walk_at "go"
   exact h _ _ (fin 1 (.inl rfl))
 ·walk_at "go"
  exact h _ _ (wi_up lt (by omega))
theorem ahead_k0{Q:T->Prop}{f t:Tr}{s2 s3:Slot}(lf:LimT 50 f)(lt:WiT 4 t)(h:∀r:Tr,WiT 10 r->Q (trT r)):Z1y {nx:=fun _=>Q .non,rt:=Q} [.val (trT f),.val (trT t),s2,s3]:=by
 unfold Z1y
 obtain⟨W0,hW0⟩:∃W,W=Z1x:=⟨_,rfl⟩
 rw[← hW0]
 walk_at "go"
 refine Eq.mpr (congrFun (congrFun hW0 _) _) ?_
 refine ahead_b0 (u:=(0,0,1)) lf lt (by decide) (by decide) fun t1 s3 l1=>?_
 walk_at "go"
 refine Eq.mpr (congrFun (congrFun hW0 _) _) ?_
 refine ahead_b0 (u:=(0,1,0)) lf l1 (by decide) (by decide) fun t2 s3 l2=>?_
 walk_at "go"
 refine Eq.mpr (congrFun (congrFun hW0 _) _) ?_
 refine ahead_b0 (u:=(1,0,0)) lf l2 (by decide) (by decide) fun t3 s3 l3=>?_
 walk_at "go"
 exact h t3 (wi_up l3 (by decide))
theorem Z3Y:∀ts Q,Z1F ts Q->Z2H {nx:=fun _=>Q .non,rt:=Q} (startT 4 ts):=by
 rintro _ Q ⟨f,t,rfl,lf,lt,h⟩
 have fin:=fun {t:Tr} (lt:WiT 4 t)=>ahead_k0 (Q:=Q) (s2:=.no) (s3:=.no) lf lt h
 unfold Z2H
 obtain⟨W1,hW1⟩:∃W,W=Z1y:=⟨_,rfl⟩
 rw[← hW1]at fin ⊢
 walk_at "go"
 refine⟨f,t,rfl,lf.mono (by decide),(wiT_lim lt (by decide)).mono (by decide),?_⟩
 walk_at "go"
 refine⟨fun z=>?_,fun z=>?_⟩
 ·walk_at "go"
  refine fin (t:=(0 - t.1,0 - t.2.1,0 - t.2.2)) ?_
  obtain⟨⟨a1,a2⟩,⟨b1,b2⟩,c1,c2⟩:=lt
  exact⟨⟨by show -4<=0 - t.1;omega,by show 0 - t.1<=4;omega⟩,⟨by show -4<=0 - t.2.1;omega,by show 0 - t.2.1<=4;omega⟩,by show -4<=0 - t.2.2;omega,by show 0 - t.2.2<=4;omega⟩
 ·walk_at "go"
  exact fin lt
def Z2h:SpT:=fun ts Q=>∃(x y z:Tr) (c:Int),ts=[ptl x y z,.int c]/\WiT E9 x/\WiT E9 y/\WiT E9 z/\∀r:Tr,NmT r->Q (trT r)
theorem Z4h:∀ts Q,Z2h ts Q->ts.length=2:=by rintro ts Q ⟨_,_,_,_,e,_⟩;subst e;rfl
def Z2q:WE :=
 (w2 rSubT (wCall Z00 (aCons (wVar 1) (aCons (w2 rAddT (wC (.int 60)) (wVar 0)) (aCons (wC (.int 9)) aNil)))) (wC (.int 4)))
def Z3G:WS :=
 (sSeq (sSet 2 (wCall Z0W (aCons (w2 rIxTT (wVar 0) (wC (.int 1))) (aCons (w2 rIxTT (wVar 0) (wC (.int 2))) aNil))))
  (sSeq (sSet 3 (wCall Z1F (aCons (wVar 2) (aCons (wCB rTupleT (aCons (wComp (iRange1 (aCons (wC (.int 3)) aNil)) (gN 0) tTrue Z2q 1 [1]) aNil)) aNil))))
  (sRet (wCB rTupleT (aCons (wComp (iZip (aCons (w2 rIxTT (wVar 0) (wC (.int 0))) (aCons (wVar 3) aNil))) (gT 2 (gsC (gN 0) (gsC (gN 1) gs0))) tTrue (w2 rAddT (wVar 0) (wVar 1)) 2 []) aNil)))))
theorem Z4r:∀ts Q,Z2h ts Q->Z3G {nx:=fun _=>Q .non,rt:=Q} (startT 4 ts):=by
 rintro _ Q ⟨x,y,z,c,rfl,lx,ly,lz,h⟩
 unfold Z3G
 obtain⟨W0,hW0⟩:∃W,W=Z2q:=⟨_,rfl⟩
 rw[← hW0]
 walk_at "go"
 refine⟨y,z,rfl,(WiT.lim ly).mono (by decide),(WiT.lim lz).mono (by decide),?_⟩
 have el:∀{k:Int}{R:T->Prop},0<=k->k < 3->(∀v:Int,Wi 4 v->R (.int v))->W0 [.val (.int k),.val (.int c)] R:=fun {k R} hk0 hk hR=>by
  refine Eq.mpr (congrFun (congrFun hW0 _) _) ?_
  unfold Z2q
  walk_at "go"
  refine⟨c,60 + k,9,rfl,by omega,by omega,by decide,by decide,fun r r0 r1=>?_⟩
  exact hR _ ⟨by show -4<=r - 4;omega,by show r - 4<=4;omega⟩
 walk_at "go"
 refine el (k:=0) (by decide) (by decide) fun v1 h1=>?_
 walk_at "go"
 refine el (k:=1) (by decide) (by decide) fun v2 h2=>?_
 walk_at "go"
 refine el (k:=2) (by decide) (by decide) fun v3 h3=>?_
 walk_at "go"
 refine⟨crs y z,(v1,v2,v3),rfl,(lim_crs (WiT.lim ly) (WiT.lim lz) (k:=21) (by decide)).mono (by decide),⟨h1,h2,h3⟩,fun r hr=>?_⟩
 walk_at "go"
 refine h (x.1 + r.1,x.2.1 + r.2.1,x.2.2 + r.2.2) ?_
 obtain⟨⟨a1,a2⟩,⟨b1,b2⟩,c1,c2⟩:=hr
 obtain⟨⟨d1,d2⟩,⟨e1,e2⟩,f1,f2⟩:=lx
 have nm:∀i j:Int,-E9<=i->i<=E9 -> -10<=j->j<=10->Nm (i + j):=fun i j h1 h2 h3 h4=>by
  have h1:-999999980<=i:=h1
  have h2:i<=999999980:=h2
  show (i + j).natAbs<=1000000000
  omega
 exact⟨nm _ _ d1 d2 a1 a2,nm _ _ e1 e2 b1 b2,nm _ _ f1 f2 c1 c2⟩
def Z1G:SpT:=fun ts Q=>∃(c:Int) (n:Nat),ts=[.int c,.int n]/\n<=50/\∀zs:List Str,zs.length=n->(∀z∈zs,Sg 14 z)->Q (.lst (zs.map T.str))
theorem Z3H:∀ts Q,Z1G ts Q->ts.length=2:=by rintro ts Q ⟨_,_,e,_⟩;subst e;rfl
def Z1b:WE :=
 (w2 rIxST (wVar 1) (wCall Z00 (aCons (wVar 2) (aCons (w2 rAddT (wC (.int 3)) (wVar 0)) (aCons (wC (.int 26)) aNil)))))
def Z0L:WS :=
 (sSeq (sSet 7 (w2 rAddST (w2 rIxST (wVar 2) (w2 rModT (w2 rMulT (wVar 6) (wC (.int 7))) (wC (.int 26)))) (w2 rIxTT (wLst (aCons (wC (.str (Str.ofString ""))) (aCons (wC (.str (Str.ofString "q"))) aNil))) (w2 rDivT (wVar 6) (wC (.int 26))))))
  (sApp 5 (w2 rAddST (w2 rAddST (wSlS (wVar 3) wo0 (wo (wVar 4))) (wVar 7)) (wSlS (wVar 3) (wo (wVar 4)) wo0))))
def Z2I:WS :=
 (sSeq (sSet 2 (wC (.str (Str.ofString "abcdefghijklmnopqrstuvwxyz"))))
  (sSeq (sSet 3 (wJoin (wC (.str (Str.ofString ""))) (wComp (iRange1 (aCons (wCall Z00 (aCons (wVar 0) (aCons (wC (.int 0)) (aCons (wC (.int 7)) aNil)))) aNil)) (gN 0) tTrue Z1b 1 [2,0])))
  (sSeq (sSet 4 (wCall Z00 (aCons (wVar 0) (aCons (wC (.int 1)) (aCons (w2 rAddT (wCB rLenST (aCons (wVar 3) aNil)) (wC (.int 1))) aNil)))))
  (sSeq (sOwn 5 aNil)
  (sSeq (sFor (iRange1 (aCons (wVar 1) aNil)) (gN 6) Z0L)
  (sFrz 5 (sRet (wVar 5))))))))
abbrev abc:Str:=Str.ofString "abcdefghijklmnopqrstuvwxyz"
theorem abc_at:∀d:Nat,d < 26->∃c,atI abc.cps.toList (d:Int)=some c/\c < 200:=by
 intro d hd
 have:∀d:Nat,d < 26->atI abc.cps.toList (d:Int)=some (97 + d):=by decide +kernel
 exact⟨97 + d,this d hd,by omega⟩
theorem abc_len:abc.length<=1000:=by decide +kernel
theorem one_sg{c:Nat}(h:c < 200):Sg 1 (⟨#[c]⟩:Str):=⟨Nat.le_refl _,by
 unfold PyData.strOk
 simp only[List.all_toArray,List.all_cons,List.all_nil,Bool.and_true,decide_eq_true_eq]
 omega⟩
theorem stem_comp{c:Int}:∀(n:Nat)(i:Nat)(acc:List Str)(x:Slot)(Q:List T->Prop),i + n<=10->(∀z∈acc,Sg 1 z)->(∀zs:List Str,zs.length=acc.length + n->(∀z∈zs,Sg 1 z)->Q (zs.map T.str)) →
  compT (gN 0) tTrue Z1b (rangeT i n) (acc.map T.str) [x,.val (.str abc),.val (.int c)] Q
 | 0,i,acc,x,Q,_,ha,h=>by
  simp only[rangeT,compT]
  exact h acc (by omega) ha
 | n + 1,i,acc,x,Q,hi,ha,h=>by
  have i1:=fun (z:Str) (hz:Sg 1 z)=>stem_comp (c:=c) n (i + 1) (acc++[z]) (.val (.int i)) Q (by omega) (fun y hy=>by
   rcases List.mem_append.mp hy with w|w
   ·exact ha y w
   ·rw[List.mem_singleton.mp w];exact hz) (fun zs hl hz=>h zs (by rw[hl];simp;omega) hz)
  simp only[List.map_append,List.map_cons,List.map_nil]at i1
  simp only[rangeT,compT]
  rw[show ((i:Int) + 1)=((i + 1:Nat):Int) by simp]
  generalize compT (gN 0) tTrue Z1b (rangeT ((i + 1:Nat):Int) n)=F at i1 ⊢
  refine⟨fun _=>?_,fun z=>(by cases z)⟩
  unfold Z1b
  walk_at "go"
  refine⟨c,3 + (i:Int),26,rfl,by omega,by omega,by decide,by decide,fun r r0 r1=>?_⟩
  obtain⟨d,rfl⟩:∃d:Nat,r=d:=⟨r.toNat,by omega⟩
  obtain⟨k,ek,hk⟩:=abc_at d (by omega)
  refine⟨abc_len,?_⟩
  rw[ek]
  exact i1 _ (one_sg hk)
theorem names_b0{D:DT}{own:List T}{stem:Str}{at':Int}{k:Nat}{s0 s1 s7:Slot}(hs:Sg 6 stem)(hk:k < 52)(hl:own.length < 900)(h:∀z s7,Sg 14 z->D.nx [s0,s1,.val (.str abc),.val (.str stem),.val (.int at'),.own (own++[.str z]),.val (.int k),s7]) :
  Z0L D [s0,s1,.val (.str abc),.val (.str stem),.val (.int at'),.own own,.val (.int k),s7]:=by
 have f:=fmod_pos ((k:Int) * 7) (b:=26) (by decide)
 obtain⟨d,ed⟩:∃d:Nat,((k:Int) * 7).fmod 26=d:=⟨(((k:Int) * 7).fmod 26).toNat,by omega⟩
 obtain⟨x,ex,hx⟩:=abc_at d (by omega)
 have m7:MulOk (k:Int) 7:=mulOkR (Lim.of (by decide) (by decide))
 have dv:DivOk (26:Int):=divOk (by decide) (Lim.of (n:=2) (by decide) (by decide))
 have e26:(k:Int).fdiv 26=0∨(k:Int).fdiv 26=1:=by
  rw[Int.fdiv_eq_ediv_of_nonneg _ (by decide)]
  omega
 have h1:Sg 1 (⟨#[x]⟩:Str):=one_sg hx
 have hq:∀z:Str,(z=Str.ofString "" ∨ z=Str.ofString "q")->Sg 1 z:=fun z hz=>by rcases hz with rfl|rfl<;>exact⟨by decide +kernel,by decide +kernel⟩
 have sl:=fun lo hi=>hs.slice lo hi
 have ls:=hs.len
 have hl':own.length < 1000:=by omega
 unfold Z0L
 refine⟨m7,by decide,abc_len,?_⟩
 rw[ed,ex]
 have fin:∀q:Str,(q=Str.ofString "" ∨ q=Str.ofString "q")->(⟨#[x]⟩:Str).length + q.length<=1000/\(stem.length<=1000/\(Txt.slice stem none (some at')).length + ((⟨#[x]⟩:Str)++q).length<=1000/\stem.length<=1000/\(Txt.slice stem none (some at')++((⟨#[x]⟩:Str)++q)).length + (Txt.slice stem (some at') none).length<=1000/\own.length < 1000/\D.nx [s0,s1,.val (.str abc),.val (.str stem),.val (.int at'),.own (own++[.str (Txt.slice stem none (some at')++((⟨#[x]⟩:Str)++q)++Txt.slice stem (some at') none)]),.val (.int k),.val (.str ((⟨#[x]⟩:Str)++q))]):=fun q hq'=>by
  have q1:=hq q hq'
  have a1:=h1.app q1 (Nat.le_refl _)
  have a2:=(sl none (some at')).app a1 (Nat.le_refl _)
  have a3:=a2.app (sl (some at') none) (Nat.le_refl _)
  have:=h1.len
  have:=q1.len
  have:=a1.len
  have:=a2.len
  have:=(sl none (some at')).len
  have:=(sl (some at') none).len
  exact⟨by omega,by omega,by omega,by omega,by omega,hl',h _ _ (a3.mono (by decide))⟩
 rcases e26 with e|e
 ·have:=fin (Str.ofString "") (.inl rfl)
  refine⟨by simp,dv,?_⟩
  rw[e]
  exact this
 ·have:=fin (Str.ofString "q") (.inr rfl)
  refine⟨by simp,dv,?_⟩
  rw[e]
  exact this
theorem names_loop{D:DT}{stem:Str}{at':Int}{s0 s1:Slot}(hs:Sg 6 stem):∀(n k:Nat)(own:List Str)(s6 s7:Slot),k + n<=52->own.length=k->(∀z∈own,Sg 14 z) →
  (∀(zs:List Str)(s6 s7:Slot),zs.length=k + n->(∀z∈zs,Sg 14 z)->D.nx [s0,s1,.val (.str abc),.val (.str stem),.val (.int at'),.own (zs.map T.str),s6,s7]) →
  forT (gN 6) Z0L (rangeT k n) D [s0,s1,.val (.str abc),.val (.str stem),.val (.int at'),.own (own.map T.str),s6,s7]
 | 0,k,own,s6,s7,_,hl,ho,h=>by
  simp only[rangeT,forT]
  exact h own _ _ (by omega) ho
 | n + 1,k,own,s6,s7,hk,hl,ho,h=>by
  have ih:=fun (z:Str) (hz:Sg 14 z) s6 s7=>names_loop (D:=D) (stem:=stem) (at':=at') (s0:=s0) (s1:=s1) hs n (k + 1) (own++[z]) s6 s7 (by omega) (by simp;omega) (fun y hy=>by
   rcases List.mem_append.mp hy with w|w
   ·exact ho y w
   ·rw[List.mem_singleton.mp w];exact hz) (fun zs s6 s7 e hz=>h zs s6 s7 (by omega) hz)
  simp only[List.map_append,List.map_cons,List.map_nil]at ih
  simp only[rangeT,forT]
  rw[show ((k:Int) + 1)=((k + 1:Nat):Int) by simp]
  generalize forT (gN 6) Z0L (rangeT ((k + 1:Nat):Int) n) D=F at ih ⊢
  exact names_b0 (D:={D with nx:=F,ct:=F,bk:=D.nx}) hs (by omega) (by rw[List.length_map];omega) fun z s7 hz=>ih z hz _ _
theorem emp_sg:Sg 0 (Str.ofString ""):=⟨by decide +kernel,by decide +kernel⟩
theorem Z3Z:∀ts Q,Z1G ts Q->Z2I {nx:=fun _=>Q .non,rt:=Q} (startT 8 ts):=by
 rintro _ Q ⟨c,n,rfl,hn,h⟩
 unfold Z2I
 obtain⟨W0,hW0⟩:∃W,W=Z0L:=⟨_,rfl⟩
 obtain⟨W1,hW1⟩:∃W,W=Z1b:=⟨_,rfl⟩
 rw[← hW0,← hW1]
 walk_at "go"
 refine⟨c,0,7,rfl,by decide,by decide,by decide,by decide,fun r r0 r1=>?_⟩
 obtain⟨d,rfl⟩:∃d:Nat,r=d:=⟨r.toNat,by omega⟩
 refine⟨⟨by omega,by omega⟩,by rw[rangeT_length];omega,?_⟩
 rw[hW1,Int.toNat_natCast]
 refine stem_comp d 0 [] _ _ (by omega) (fun z hz=>absurd hz (by simp)) fun zs hl hz=>?_
 rw[List.length_nil,Nat.zero_add]at hl
 refine join_ok (n:=1) emp_sg (strsOf_map zs) hz (by omega) ?_
 have st:Sg 6 (Txt.join (Str.ofString "") zs):=Sg.join emp_sg hz (by omega)
 generalize Txt.join (Str.ofString "") zs=stem at st ⊢
 have ls:=st.len
 refine⟨by omega,?_⟩
 refine⟨c,1,(stem.length:Int) + 1,rfl,by decide,by decide,by omega,by omega,fun a a0 a1=>?_⟩
 walk_at "tw"
 refine⟨⟨by omega,by omega⟩,?_⟩
 rw[hW0,Int.toNat_natCast]
 refine names_loop (D:={nx:=sFrz 5 (sRet (wVar 5)) {nx:=fun _=>Q .non,rt:=Q},rt:=Q}) st n 0 [] _ _ (by omega) rfl (fun z hz=>absurd hz (by simp)) fun zs s6 s7 e hz=>?_
 walk_at "go"
 exact h zs (by omega) hz
def Z20:SpT:=fun ts Q=>∃(cs:List Int) (n:Nat),ts=[.lst (cs.map T.int),.int n]/\1<=cs.length/\cs.length<=200/\n<=90/\∀ss:List (Int×Tr),ss.length=n->(∀x∈ss,SunOk x)->Q (.lst (ss.map sunE))
theorem Z4i:∀ts Q,Z20 ts Q->ts.length=2:=by rintro ts Q ⟨_,_,e,_⟩;subst e;rfl
def Z21:WS :=
 (sSeq (sApp 2 (wTup (aCons (wVar 3) (aCons (wVar 6) aNil))))
  (sSet 3 (w2 rAddT (w2 rAddT (wVar 3) (wC (.int 1))) (wCall Z00 (aCons (wVar 5) (aCons (wC (.int 91)) (aCons (wC (.int 100)) aNil)))))))
def Z22:WS :=
 (sSeq (sIf (tCmpT cEqT (wVar 6) (wTup (aCons (wC (.int 0)) (aCons (wC (.int 0)) (aCons (wC (.int 0)) aNil))))) (sSet 6 (wTup (aCons (wC (.int 0)) (aCons (wC (.int 0)) (aCons (wC (.int 1)) aNil))))) sNext)
  Z21)
def Z1j:WS :=
 (sSeq (sSet 5 (w2 rAddT (w2 rIxTT (wVar 0) (w2 rModT (wVar 4) (wCB rLenT (aCons (wVar 0) aNil)))) (w2 rMulT (wC (.int 2)) (wVar 4))))
  (sSeq (sSet 6 (wCall Z0q (aCons (wVar 5) (aCons (wC (.int 81)) aNil))))
  (sSeq (sIf (tCmpT cEqT (wCall Z00 (aCons (wVar 5) (aCons (wC (.int 90)) (aCons (wC (.int 9)) aNil)))) (wC (.int 2))) (sSet 6 (wTup (aCons (w2 rPowT (wC (.int 10)) (wC (.int 9))) (aCons (w2 rSubT (wC (.int 0)) (w2 rPowT (wC (.int 10)) (wC (.int 9)))) (aCons (w2 rIxTT (wVar 6) (wC (.int 2))) aNil))))) sNext)
  Z22)))
def Z3I:WS :=
 (sSeq (sOwn 2 aNil)
  (sSeq (sSet 3 (wCall Z00 (aCons (w2 rIxTT (wVar 0) (wC (.int 0))) (aCons (wC (.int 80)) (aCons (wC (.int 200)) aNil)))))
  (sSeq (sFor (iRange1 (aCons (wVar 1) aNil)) (gN 4) Z1j)
  (sFrz 2 (sRet (wVar 2))))))
theorem sun_k0{D:DT}{own:List T}{hr c:Int}{d:Tr}{s0 s1 s4:Slot}(hl:own.length < 900)(h:∀r:Int,0<=r->r < 100->D.nx [s0,s1,.own (own++[sunE (hr,d)]),.val (.int (hr + 1 + r)),s4,.val (.int c),.val (trT d)]) :
  Z21 D [s0,s1,.own own,.val (.int hr),s4,.val (.int c),.val (trT d)]:=by
 have hl':own.length < 1000:=by omega
 unfold Z21
 walk_at "go"
 exact⟨c,91,100,rfl,by decide,by decide,by decide,by decide,fun r r0 r1=>h r r0 r1⟩
theorem sun_k1{D:DT}{own:List T}{hr c:Int}{d:Tr}{s0 s1 s4:Slot}(hl:own.length < 900)(hd:NmT d)(h:∀(d':Tr)(r:Int),NmT d'->0<=r->r < 100->D.nx [s0,s1,.own (own++[sunE (hr,d')]),.val (.int (hr + 1 + r)),s4,.val (.int c),.val (trT d')]) :
  Z22 D [s0,s1,.own own,.val (.int hr),s4,.val (.int c),.val (trT d)]:=by
 have fin:=fun (d':Tr) (hd':NmT d')=>sun_k0 (D:=D) (own:=own) (hr:=hr) (c:=c) (d:=d') (s0:=s0) (s1:=s1) (s4:=s4) hl fun r r0 r1=>h d' r hd' r0 r1
 unfold Z22
 obtain⟨W0,hW0⟩:∃W,W=Z21:=⟨_,rfl⟩
 rw[← hW0]at fin ⊢
 walk_at "go"
 refine⟨eqOk_tri _ _ _ _ _ _,?_⟩
 rw[eqT_tri]
 refine⟨fun z=>?_,fun z=>?_⟩
 ·walk_at "go"
  exact fin (0,0,1) ⟨by decide,by decide,by decide⟩
 ·walk_at "go"
  exact fin d hd
theorem at_mod{cs:List Int}(h:1<=cs.length)(k:Int):∃v,atI (cs.map T.int) (k.fmod ((cs.map T.int).length:Int))=some (.int v):=by
 have f:=fmod_pos k (b:=((cs.map T.int).length:Int)) (by rw[List.length_map];omega)
 obtain⟨v,_,e⟩:=atI_map (ns:=cs) f.1 (by rw[List.length_map]at f ⊢;exact f.2)
 exact⟨v,e⟩
theorem sun_b0{D:DT}{cs:List Int}{own:List T}{hr:Int}{k:Nat}{s1 s5 s6:Slot}(h1:1<=cs.length)(hk:k<=200)(hl:own.length < 900)(h:∀(d:Tr)(r:Int)(s5 s6:Slot),NmT d->0<=r->r < 100->D.nx [.val (.lst (cs.map T.int)),s1,.own (own++[sunE (hr,d)]),.val (.int (hr + 1 + r)),.val (.int k),s5,s6]) :
  Z1j D [.val (.lst (cs.map T.int)),s1,.own own,.val (.int hr),.val (.int k),s5,s6]:=by
 obtain⟨v,ev⟩:=at_mod h1 (k:Int)
 have dn:(((cs.map T.int).length:Nat):Int)≠0:=by rw[List.length_map];omega
 have m2:MulOk 2 (k:Int):=mulOkL (Lim.of (by decide) (by decide))
 have c9:=cpow10 9 (by decide)
 have p9:(10 ^ Int.toNat 9:Int)=1000000000:=by decide
 have fin:=fun (c:Int) (d:Tr) (hd:NmT d)=>sun_k1 (D:=D) (own:=own) (hr:=hr) (c:=c) (d:=d) (s0:=.val (.lst (cs.map T.int))) (s1:=s1) (s4:=.val (.int k)) hl hd fun d' r hd' r0 r1=>h d' r _ _ hd' r0 r1
 unfold Z1j
 obtain⟨W0,hW0⟩:∃W,W=Z22:=⟨_,rfl⟩
 rw[← hW0]at fin ⊢
 walk_at "go"
 rw[ev]
 walk_at "go"
 refine⟨v + 2 * (k:Int),81,rfl,by decide,by decide,fun t ht=>?_⟩
 have nt:NmT t:=WiT.nm ht (by decide)
 walk_at "go"
 refine⟨v + 2 * (k:Int),90,9,rfl,by decide,by decide,by decide,by decide,fun r r0 r1=>?_⟩
 walk_at "go"
 refine⟨fun z=>?_,fun z=>?_⟩
 ·walk_at "go"
  exact fin _ (10 ^ Int.toNat 9,0 - 10 ^ Int.toNat 9,t.2.2) ⟨by show Nm (10 ^ Int.toNat 9);decide,by show Nm (0 - 10 ^ Int.toNat 9);decide,nt.2.2⟩
 ·walk_at "go"
  exact fin _ t nt
theorem sun_loop{D:DT}{cs:List Int}{s1:Slot}(h1:1<=cs.length):∀(n k:Nat)(ss:List (Int×Tr))(hr:Int)(s4 s5 s6:Slot),k + n<=200->ss.length=k->0<=hr->hr<=1000 + 200 * (k:Int)->(∀x∈ss,SunOk x) →
  (∀(ss:List (Int×Tr))(s3 s4 s5 s6:Slot),ss.length=k + n->(∀x∈ss,SunOk x)->D.nx [.val (.lst (cs.map T.int)),s1,.own (ss.map sunE),s3,s4,s5,s6]) →
  forT (gN 4) Z1j (rangeT k n) D [.val (.lst (cs.map T.int)),s1,.own (ss.map sunE),.val (.int hr),s4,s5,s6]
 | 0,k,ss,hr,s4,s5,s6,_,hl,_,_,ho,h=>by
  simp only[rangeT,forT]
  exact h ss _ _ _ _ (by omega) ho
 | n + 1,k,ss,hr,s4,s5,s6,hk,hl,g0,g1,ho,h=>by
  have nh:Nm hr:=by show hr.natAbs<=1000000000;omega
  have ih:=fun (d:Tr) (hd:NmT d) (r:Int) (r0:0<=r) (r1:r < 100) s4 s5 s6=>sun_loop (D:=D) (s1:=s1) h1 n (k + 1) (ss++[(hr,d)]) (hr + 1 + r) s4 s5 s6 (by omega) (by simp;omega) (by omega) (by omega) (fun y hy=>by
   rcases List.mem_append.mp hy with w|w
   ·exact ho y w
   ·rw[List.mem_singleton.mp w];exact⟨nh,hd⟩) (fun ss s3 s4 s5 s6 e hz=>h ss s3 s4 s5 s6 (by omega) hz)
  simp only[List.map_append,List.map_cons,List.map_nil]at ih
  simp only[rangeT,forT]
  rw[show ((k:Int) + 1)=((k + 1:Nat):Int) by simp]
  generalize forT (gN 4) Z1j (rangeT ((k + 1:Nat):Int) n) D=F at ih ⊢
  exact sun_b0 (D:={D with nx:=F,ct:=F,bk:=D.nx}) h1 (by omega) (by rw[List.length_map];omega) fun d r s5 s6 hd r0 r1=>ih d hd r r0 r1 _ _ _
theorem Z4s:∀ts Q,Z20 ts Q->Z3I {nx:=fun _=>Q .non,rt:=Q} (startT 7 ts):=by
 rintro _ Q ⟨cs,n,rfl,h1,h2,hn,h⟩
 obtain⟨v,_,ev⟩:=atI_map (ns:=cs) (k:=0) (by decide) (by omega)
 unfold Z3I
 obtain⟨W0,hW0⟩:∃W,W=Z1j:=⟨_,rfl⟩
 rw[← hW0]
 walk_at "go"
 rw[ev]
 refine⟨v,80,200,rfl,by decide,by decide,by decide,by decide,fun r r0 r1=>?_⟩
 refine⟨⟨by omega,by omega⟩,?_⟩
 rw[hW0,Int.toNat_natCast]
 refine sun_loop (D:={nx:=sFrz 2 (sRet (wVar 2)) {nx:=fun _=>Q .non,rt:=Q},rt:=Q}) h1 n 0 [] r _ _ _ (by omega) rfl r0 (by omega) (fun z hz=>absurd hz (by simp)) fun ss s3 s4 s5 s6 e hz=>?_
 walk_at "go"
 exact h ss (by omega) hz
def Z1s:SpT:=fun ts Q=>∃ns:List Int,ts=[.lst (ns.map T.int)]/\ns.length<=63/\∀y:Yd,YdOk y->1<=y.suns.length->Q (ydT y)
theorem Z40:∀ts Q,Z1s ts Q->ts.length=1:=by rintro ts Q ⟨_,e,_⟩;subst e;rfl
def Z28:WE :=
 (w2 rIxTT (wLst (aCons (wC (.int 0)) (aCons (wC (.int 1)) (aCons (wC (.int 4)) aNil)))) (wCall Z00 (aCons (wVar 1) (aCons (wVar 0) (aCons (wC (.int 3)) aNil)))))
def Z0X:WS :=
 (sSeq (sSet 8 (w2 rAddT (w2 rIxTT (wVar 2) (w2 rModT (wVar 7) (wCB rLenT (aCons (wVar 2) aNil)))) (w2 rMulT (wC (.int 2)) (w2 rDivT (wVar 7) (wCB rLenT (aCons (wVar 2) aNil))))))
  (sSeq (sSet 9 (wCall Z1E (aCons (wVar 8) (aCons (wC (.int 0)) aNil))))
  (sIf (tCmpT cLtT (wVar 7) (w2 rIxTT (wVar 3) (wC (.int 1)))) (sApp 5 (wTup (aCons (w2 rIxTT (wVar 4) (wVar 7)) (aCons (wVar 9) aNil)))) (sApp 6 (wTup (aCons (w2 rIxTT (wVar 4) (wVar 7)) (aCons (wVar 9) (aCons (wCall Z2h (aCons (wVar 9) (aCons (wVar 8) aNil))) aNil))))))))
def Z1T:WS :=
 (sSeq (sSet 4 (wCall Z1G (aCons (wCall Z0b (aCons (wVar 0) (aCons (wC (.int 1)) aNil))) (aCons (w2 rAddT (w2 rIxTT (wVar 3) (wC (.int 1))) (w2 rIxTT (wVar 3) (wC (.int 2)))) aNil))))
  (sSeq (sOwn 5 aNil)
  (sSeq (sOwn 6 aNil)
  (sSeq (sFor (iRange1 (aCons (w2 rAddT (w2 rIxTT (wVar 3) (wC (.int 1))) (w2 rIxTT (wVar 3) (wC (.int 2)))) aNil)) (gN 7) Z0X)
  (sFrz 6 (sFrz 5 (sRet (wTup (aCons (wCall Z20 (aCons (wVar 2) (aCons (w2 rAddT (wC (.int 1)) (w2 rIxTT (wVar 3) (wC (.int 0)))) aNil))) (aCons (wVar 5) (aCons (wVar 6) aNil)))))))))))
def Z1U:WS :=
 (sSeq (sIf (tCmpT cEqT (wCall Z00 (aCons (wVar 1) (aCons (wC (.int 3)) (aCons (wC (.int 5)) aNil)))) (wC (.int 2))) (sSet 3 (wLst (aCons (wCall Z00 (aCons (wVar 1) (aCons (wC (.int 4)) (aCons (wC (.int 3)) aNil)))) (aCons (wCall Z00 (aCons (wVar 1) (aCons (wC (.int 5)) (aCons (wC (.int 21)) aNil)))) (aCons (wC (.int 20)) aNil))))) sNext)
  Z1T)
def Z3b:WS :=
 (sSeq (sSet 1 (wCall Z0b (aCons (wVar 0) (aCons (wC (.int 0)) aNil))))
  (sSeq (sSet 2 (w2 rCatLT (wSl (wVar 0) (wo (wC (.int 3))) (wo (wC (.int 63)))) (wLst (aCons (wVar 1) aNil))))
  (sSeq (sSet 3 (wComp (iRange1 (aCons (wC (.int 3)) aNil)) (gN 0) tTrue Z28 1 [1]))
  (sSeq (sIf (tCmpT cEqT (wCall Z00 (aCons (wVar 1) (aCons (wC (.int 3)) (aCons (wC (.int 5)) aNil)))) (wC (.int 1))) (sSet 3 (wLst (aCons (wCall Z00 (aCons (wVar 1) (aCons (wC (.int 4)) (aCons (wC (.int 80)) aNil)))) (aCons (wC (.int 20)) (aCons (wCall Z00 (aCons (wVar 1) (aCons (wC (.int 5)) (aCons (wC (.int 21)) aNil)))) aNil))))) sNext)
  Z1U))))
theorem at_z{zs:List Str}{k:Nat}(h:k < zs.length):atI (zs.map T.str) (k:Int)=some (.str zs[k]):=by
 unfold atI ixN
 rw[List.length_map,if_pos (by omega),if_pos (by omega)]
 simp only[Option.bind,Int.toNat_natCast]
 rw[List.getElem?_map,List.getElem?_eq_getElem h]
 rfl
structure Ct(c0 c1 c2:Int):Prop where
 a0:0<=c0
 a1:c0<=79
 b0:0<=c1
 b1:c1<=20
 d0:0<=c2
 d1:c2<=20
abbrev yS(s0 s1 s8 s9:Slot)(cs:List Int)(c0 c1 c2:Int)(zs:List Str)(ws:List Wl)(ds:List Dl)(s7:Slot):List Slot :=
 [s0,s1,.val (.lst (cs.map T.int)),.val (.lst [.int c0,.int c1,.int c2]),.val (.lst (zs.map T.str)),.own (ws.map walE),.own (ds.map dilE),s7,s8,s9]
theorem yard_b0{D:DT}{cs:List Int}{c0 c1 c2:Int}{zs:List Str}{ws:List Wl}{ds:List Dl}{k:Nat}{s0 s1 s8 s9:Slot}(h1:1<=cs.length)(h2:cs.length<=200)(hk:k < zs.length)(hk2:k<=100)(hz:Sg 14 zs[k])(lw:ws.length < 900)(ld:ds.length < 900)
  (hw:∀w s8 s9,WlOk w->D.nx (yS s0 s1 s8 s9 cs c0 c1 c2 zs (ws++[w]) ds (.val (.int k)))) (hd:∀d s8 s9,DlOk d->D.nx (yS s0 s1 s8 s9 cs c0 c1 c2 zs ws (ds++[d]) (.val (.int k)))) :
  Z0X D (yS s0 s1 s8 s9 cs c0 c1 c2 zs ws ds (.val (.int k))):=by
 obtain⟨v,ev⟩:=at_mod h1 (k:Int)
 have dn:(((cs.map T.int).length:Nat):Int)≠0:=by rw[List.length_map];omega
 have dv:DivOk (((cs.map T.int).length:Nat):Int):=divOk dn (Lim.of (n:=3) (by rw[List.length_map];omega) (by rw[List.length_map];omega))
 have m2:∀x:Int,MulOk 2 x:=fun x=>mulOkL (Lim.of (by decide) (by decide))
 have ez:=at_z hk
 have lw':(ws.map walE).length < 1000:=by rw[List.length_map];omega
 have ld':(ds.map dilE).length < 1000:=by rw[List.length_map];omega
 simp only[yS,List.map_append,List.map_cons,List.map_nil]at hw hd
 unfold Z0X
 walk_at "go"
 rw[ev]
 refine⟨dv,m2 _,?_⟩
 refine⟨_,0,rfl,by decide,by decide,fun x y z hx hy hz'=>?_⟩
 have wok:WlOk (zs[k],x,y,z):=⟨hz,WiT.nm hx (by decide),WiT.nm hy (by decide),WiT.nm hz' (by decide)⟩
 walk_at "go"
 refine⟨fun q=>?_,fun q=>?_⟩
 ·walk_at "go"
  rw[ez]
  walk_at "go"
  exact hw (zs[k],x,y,z) _ _ wok
 ·walk_at "go"
  rw[ez]
  walk_at "go"
  refine⟨x,y,z,_,rfl,hx,hy,hz',fun t ht=>?_⟩
  walk_at "go"
  exact hd ((zs[k],x,y,z),t) _ _ ⟨wok,ht⟩
theorem yard_loop{D:DT}{cs:List Int}{c0 c1 c2:Int}{zs:List Str}{s0 s1:Slot}(h1:1<=cs.length)(h2:cs.length<=200)(hz:∀z∈zs,Sg 14 z):∀(n k:Nat)(ws:List Wl)(ds:List Dl)(s7 s8 s9:Slot),k + n<=zs.length->k + n<=100->ws.length + ds.length<=k->(∀w∈ws,WlOk w)->(∀d∈ds,DlOk d) →
  (∀(ws:List Wl)(ds:List Dl)(s7 s8 s9:Slot),ws.length + ds.length<=k + n->(∀w∈ws,WlOk w)->(∀d∈ds,DlOk d)->D.nx (yS s0 s1 s8 s9 cs c0 c1 c2 zs ws ds s7)) →
  forT (gN 7) Z0X (rangeT k n) D (yS s0 s1 s8 s9 cs c0 c1 c2 zs ws ds s7)
 | 0,k,ws,ds,s7,s8,s9,_,_,hl,ow,od,h=>by
  simp only[rangeT,forT]
  exact h ws ds _ _ _ (by omega) ow od
 | n + 1,k,ws,ds,s7,s8,s9,hk,hk2,hl,ow,od,h=>by
  have ih:=fun (ws':List Wl) (ds':List Dl) (e:ws'.length + ds'.length<=k + 1) (ow':∀w∈ws',WlOk w) (od':∀d∈ds',DlOk d) s7 s8 s9=>yard_loop (D:=D) (cs:=cs) (c0:=c0) (c1:=c1) (c2:=c2) (zs:=zs) (s0:=s0) (s1:=s1) h1 h2 hz n (k + 1) ws' ds' s7 s8 s9 (by omega) (by omega) e ow' od' (fun ws ds s7 s8 s9 e a b=>h ws ds s7 s8 s9 (by omega) a b)
  simp only[rangeT,forT]
  rw[show ((k:Int) + 1)=((k + 1:Nat):Int) by simp]
  generalize forT (gN 7) Z0X (rangeT ((k + 1:Nat):Int) n) D=F at ih ⊢
  refine yard_b0 (D:={D with nx:=F,ct:=F,bk:=D.nx}) h1 h2 (show k < zs.length by omega) (by omega) (hz _ (List.getElem_mem _)) (by omega) (by omega) (fun w s8 s9 hw=>ih (ws++[w]) ds (by simp;omega) (fun y hy=>?_) od _ _ _) (fun d s8 s9 hd=>ih ws (ds++[d]) (by simp;omega) ow (fun y hy=>?_) _ _ _)
  ·rcases List.mem_append.mp hy with q|q
   ·exact ow y q
   ·rw[List.mem_singleton.mp q];exact hw
  ·rcases List.mem_append.mp hy with q|q
   ·exact od y q
   ·rw[List.mem_singleton.mp q];exact hd
theorem yard_k0{Q:T->Prop}{ns cs:List Int}{cell c0 c1 c2:Int}{s4 s5 s6 s7 s8 s9:Slot}(h1:1<=cs.length)(h2:cs.length<=200)(C:Ct c0 c1 c2)(h:∀y:Yd,YdOk y->1<=y.suns.length->Q (ydT y)) :
  Z1T {nx:=fun _=>Q .non,rt:=Q} [.val (.lst (ns.map T.int)),.val (.int cell),.val (.lst (cs.map T.int)),.val (.lst [.int c0,.int c1,.int c2]),s4,s5,s6,s7,s8,s9]:=by
 obtain⟨a0,a1,b0,b1,d0,d1⟩:=C
 obtain⟨n,en⟩:∃n:Nat,c1 + c2=n:=⟨(c1 + c2).toNat,by omega⟩
 obtain⟨m,em⟩:∃m:Nat,1 + c0=m:=⟨(1 + c0).toNat,by omega⟩
 unfold Z1T
 obtain⟨W0,hW0⟩:∃W,W=Z0X:=⟨_,rfl⟩
 rw[← hW0]
 walk_at "go"
 refine⟨ns,1,rfl,by decide,fun v=>?_⟩
 walk_at "go"
 refine⟨v,n,by rw[en],by omega,fun zs hl hz=>?_⟩
 walk_at "tw"
 rw[en]
 refine⟨⟨by omega,by omega⟩,?_⟩
 rw[hW0,Int.toNat_natCast]
 refine yard_loop (D:={nx:=sFrz 6 (sFrz 5 (sRet (wTup (aCons (wCall Z20 (aCons (wVar 2) (aCons (w2 rAddT (wC (.int 1)) (w2 rIxTT (wVar 3) (wC (.int 0)))) aNil))) (aCons (wVar 5) (aCons (wVar 6) aNil)))))) {nx:=fun _=>Q .non,rt:=Q},rt:=Q}) h1 h2 hz n 0 [] [] _ _ _ (by omega) (by omega) (by simp) (fun w hw=>absurd hw (by simp)) (fun w hw=>absurd hw (by simp)) fun ws ds s7 s8 s9 e ow od=>?_
 walk_at "go"
 refine⟨cs,m,by rw[em],h1,h2,by omega,fun ss hs os=>?_⟩
 walk_at "go"
 exact h ⟨ss,ws,ds⟩ ⟨by show ss.length<=100;omega,by show ws.length<=50;omega,by show ds.length<=50;omega,by show ws.length + ds.length<=45;omega,os,ow,od⟩ (by show 1<=ss.length;omega)
theorem yard_k1{Q:T->Prop}{ns cs:List Int}{cell c0 c1 c2:Int}{s4 s5 s6 s7 s8 s9:Slot}(h1:1<=cs.length)(h2:cs.length<=200)(C:Ct c0 c1 c2)(h:∀y:Yd,YdOk y->1<=y.suns.length->Q (ydT y)) :
  Z1U {nx:=fun _=>Q .non,rt:=Q} [.val (.lst (ns.map T.int)),.val (.int cell),.val (.lst (cs.map T.int)),.val (.lst [.int c0,.int c1,.int c2]),s4,s5,s6,s7,s8,s9]:=by
 have fin:=fun {c0 c1 c2:Int} (C:Ct c0 c1 c2)=>yard_k0 (Q:=Q) (ns:=ns) (cell:=cell) (s4:=s4) (s5:=s5) (s6:=s6) (s7:=s7) (s8:=s8) (s9:=s9) h1 h2 C h
 unfold Z1U
 obtain⟨W0,hW0⟩:∃W,W=Z1T:=⟨_,rfl⟩
 rw[← hW0]at fin ⊢
 walk_at "go"
 refine⟨cell,3,5,rfl,by decide,by decide,by decide,by decide,fun r r0 r1=>?_⟩
 walk_at "go"
 refine⟨fun z=>?_,fun z=>?_⟩
 ·walk_at "go"
  refine⟨cell,4,3,rfl,by decide,by decide,by decide,by decide,fun x x0 x1=>?_⟩
  walk_at "go"
  refine⟨cell,5,21,rfl,by decide,by decide,by decide,by decide,fun y y0 y1=>?_⟩
  walk_at "go"
  exact fin ⟨x0,by omega,y0,by omega,by decide,by decide⟩
 ·walk_at "go"
  exact fin C
theorem Z4j:∀ts Q,Z1s ts Q->Z3b {nx:=fun _=>Q .non,rt:=Q} (startT 10 ts):=by
 rintro _ Q ⟨ns,rfl,hl,h⟩
 unfold Z3b
 obtain⟨W0,hW0⟩:∃W,W=Z28:=⟨_,rfl⟩
 obtain⟨W1,hW1⟩:∃W,W=Z1U:=⟨_,rfl⟩
 rw[← hW0,← hW1]
 walk_at "go"
 refine⟨ns,0,rfl,by decide,fun cell=>?_⟩
 have hc:(cutT (ns.map T.int) (some 3) (some 63)).length<=63:=by
  unfold cutT
  rw[List.length_take,List.length_drop,List.length_map]
  omega
 obtain⟨cs,el⟩:∃l:List Int,cutT (ns.map T.int) (some 3) (some 63)++[T.int cell]=l.map T.int:=⟨(ns.drop (HT.sIx ns.length 0 (some 3))).take (HT.sIx ns.length ns.length (some 63) - HT.sIx ns.length 0 (some 3))++[cell],by
  unfold cutT
  rw[List.length_map,List.map_append,List.map_take,List.map_drop]
  rfl⟩
 have ll:cs.length=(cutT (ns.map T.int) (some 3) (some 63)).length + 1:=by
  have:=congrArg List.length el
  rw[List.length_append,List.length_map]at this
  simp only[List.length_singleton]at this
  omega
 have fin:=fun {c0 c1 c2:Int} (C:Ct c0 c1 c2)=>yard_k1 (Q:=Q) (ns:=ns) (cs:=cs) (cell:=cell) (s4:=.no) (s5:=.no) (s6:=.no) (s7:=.no) (s8:=.no) (s9:=.no) (by omega) (by omega) C h
 rw[← hW1]at fin
 have elm:∀{k:Int}{R:T->Prop},0<=k->k < 3->(∀v:Int,0<=v->v<=4->R (.int v))->W0 [.val (.int k),.val (.int cell)] R:=fun {k R} hk0 hk hR=>by
  refine Eq.mpr (congrFun (congrFun hW0 _) _) ?_
  unfold Z28
  walk_at "go"
  refine⟨cell,k,3,rfl,hk0,by omega,by decide,by decide,fun r r0 r1=>?_⟩
  have:r=0∨r=1∨r=2:=by omega
  rcases this with rfl|rfl|rfl
  ·exact hR 0 (by decide) (by decide)
  ·exact hR 1 (by decide) (by decide)
  ·exact hR 4 (by decide) (by decide)
 walk_at "go"
 refine⟨by have:(List.length [T.int cell])=1:=rfl;omega,?_⟩
 rw[el]
 walk_at "go"
 refine elm (k:=0) (by decide) (by decide) fun v1 p1 q1=>?_
 walk_at "go"
 refine elm (k:=1) (by decide) (by decide) fun v2 p2 q2=>?_
 walk_at "go"
 refine elm (k:=2) (by decide) (by decide) fun v3 p3 q3=>?_
 walk_at "go"
 refine⟨cell,3,5,rfl,by decide,by decide,by decide,by decide,fun r r0 r1=>?_⟩
 walk_at "go"
 refine⟨fun z=>?_,fun z=>?_⟩
 ·walk_at "go"
  refine⟨cell,4,80,rfl,by decide,by decide,by decide,by decide,fun x x0 x1=>?_⟩
  walk_at "go"
  refine⟨cell,5,21,rfl,by decide,by decide,by decide,by decide,fun y y0 y1=>?_⟩
  walk_at "go"
  exact fin ⟨x0,by omega,by decide,by decide,y0,by omega⟩
 ·walk_at "go"
  exact fin ⟨p1,by omega,p2,by omega,p3,by omega⟩
theorem Pn.str{z:Str}(h:PyData.strOk z=true):Pn 0 (.str z):=⟨by simpa [plain,pd,PyData.canLay0] using h,by simp[dep,pd,PyData.depth]⟩
theorem Pn.tr(t:Tr):Pn 1 (trT t):=Pn.tup fun x hx=>by
 simp only[List.mem_cons,List.not_mem_nil,or_false]at hx
 rcases hx with rfl|rfl|rfl<;>exact Pn.int _
theorem Pn.ptl(c s o:Tr):Pn 2 (ptl c s o):=Pn.tup fun x hx=>by
 simp only[List.mem_cons,List.not_mem_nil,or_false]at hx
 rcases hx with rfl|rfl|rfl<;>exact Pn.tr _
theorem Pn.yd{y:Yd}(h:YdOk y):Pn 5 (ydT y):=by
 refine Pn.tup fun x hx=>?_
 simp only[ydL,List.mem_cons,List.not_mem_nil,or_false]at hx
 rcases hx with rfl|rfl|rfl
 ·refine Pn.lst fun t ht=>?_
  obtain⟨a,_,rfl⟩:=List.mem_map.mp ht
  refine Pn.tup fun q hq=>?_
  simp only[List.mem_cons,List.not_mem_nil,or_false]at hq
  rcases hq with rfl|rfl
  ·exact(Pn.int _).up (by decide)
  ·exact(Pn.tr _).up (by decide)
 ·refine Pn.lst fun t ht=>?_
  obtain⟨a,ha,rfl⟩:=List.mem_map.mp ht
  refine Pn.tup fun q hq=>?_
  simp only[List.mem_cons,List.not_mem_nil,or_false]at hq
  rcases hq with rfl|rfl
  ·exact(Pn.str (h.ow a ha).1.ok).up (by decide)
  ·exact(Pn.ptl _ _ _).up (by decide)
 ·refine Pn.lst fun t ht=>?_
  obtain⟨a,ha,rfl⟩:=List.mem_map.mp ht
  refine Pn.tup fun q hq=>?_
  simp only[List.mem_cons,List.not_mem_nil,or_false]at hq
  rcases hq with rfl|rfl|rfl
  ·exact(Pn.str (h.od a ha).1.1.ok).up (by decide)
  ·exact(Pn.ptl _ _ _).up (by decide)
  ·exact(Pn.tr _).up (by decide)
abbrev c_NOUGHT:T:=.tup [.int 0,.int 0,.int 0]
abbrev c_FARTHEST:T:=.int 1000000000
abbrev c_SAME:T:=.tup [.tup [.int 1,.int 0,.int 0],.tup [.int 0,.int 1,.int 0],.tup [.int 0,.int 0,.int 1]]
def Z0R:SpT:=fun ts Q=>∃i:Int,ts=[.int i]/\Q (.bl true)
theorem Z32:∀ts Q,Z0R ts Q->ts.length=1:=by rintro ts Q ⟨_,e,_⟩;subst e;rfl
def Z1X:WS :=
 (sRet (wAndV (wIsi .int (wVar 0)) (wNotV (wIsi .bool (wVar 0)))))
theorem Z3c:∀ts Q,Z0R ts Q->Z1X {nx:=fun _=>Q .non,rt:=Q} (startT 1 ts):=by
 rintro _ Q ⟨i,rfl,h⟩
 unfold Z1X
 walk_at "go"
 exact h
def Z0G:SpT:=fun ts Q=>∃a:Tr,ts=[trT a]/\Q (.bl true)
theorem Z2J:∀ts Q,Z0G ts Q->ts.length=1:=by rintro ts Q ⟨_,e,_⟩;subst e;rfl
def Z1V:WS :=
 (sSeq (sIf (tOrT (tNotT (tVal (wIsi .tuple (wVar 0)))) (tCmpT cNeT (wCB rLenT (aCons (wVar 0) aNil)) (wC (.int 3)))) (sRet (wC (.bl false))) sNext)
  (sRet (wCB rAllT (aCons (wComp (iSeq (wVar 0)) (gN 0) tTrue (wCall Z0R (aCons (wVar 0) aNil)) 1 []) aNil))))
theorem Z33:∀ts Q,Z0G ts Q->Z1V {nx:=fun _=>Q .non,rt:=Q} (startT 1 ts):=by
 rintro _ Q ⟨a,rfl,h⟩
 unfold Z1V
 walk_at "go"
 refine⟨_,rfl,?_⟩
 walk_at "go"
 refine⟨_,rfl,?_⟩
 walk_at "go"
 refine⟨_,rfl,?_⟩
 walk_at "go"
 exact h
def nB(i:Int):Bool:=decide (-1000000000<=i)&&decide (i<=1000000000)
def nmB3(a:Tr):Bool:=nB a.1&&(nB a.2.1&&nB a.2.2)
theorem nB_iff{i:Int}:nB i=true ↔ Nm i:=by
 unfold nB
 rw[Bool.and_eq_true,decide_eq_true_eq,decide_eq_true_eq]
 show _ ↔ i.natAbs<=1000000000
 omega
theorem nmB3_iff{a:Tr}:nmB3 a=true ↔ NmT a:=by
 unfold nmB3
 rw[Bool.and_eq_true,Bool.and_eq_true,nB_iff,nB_iff,nB_iff]
def Z0g:SpT:=fun ts Q=>∃a:Tr,ts=[trT a]/\Q (.bl (nmB3 a))
theorem Z25:∀ts Q,Z0g ts Q->ts.length=1:=by rintro ts Q ⟨_,e,_⟩;subst e;rfl
def Z0S:WS :=
 (sRet (wAndV (wCall Z0G (aCons (wVar 0) aNil)) (wCB rAllT (aCons (wComp (iSeq (wVar 0)) (gN 0) tTrue (wChain cLeT cLeT (wNeg (wC c_FARTHEST)) (wVar 0) (wC c_FARTHEST)) 1 []) aNil))))
theorem Z29:∀ts Q,Z0g ts Q->Z0S {nx:=fun _=>Q .non,rt:=Q} (startT 1 ts):=by
 rintro _ Q ⟨⟨x,y,z⟩,rfl,h⟩
 unfold Z0S
 walk_at "go"
 refine⟨(x,y,z),rfl,?_⟩
 simp only[nmB3,nB]at h
 walk_at "tw"
 generalize decide (-1000000000<=x)=p1 at h ⊢
 generalize decide (-1000000000<=y)=p2 at h ⊢
 generalize decide (-1000000000<=z)=p3 at h ⊢
 cases p1<;>cases p2<;>cases p3<;>simpa using h
def Z1t:SpT:=fun ts Q=>∃a b:Tr,ts=[trT a,trT b]/\LimT 12 a/\LimT 12 b/\Q (.int (dotI a b))
theorem Z3p:∀ts Q,Z1t ts Q->ts.length=2:=by rintro ts Q ⟨_,_,e,_⟩;subst e;rfl
def Z2r:WS :=
 (sRet (w2 rAddT (w2 rAddT (w2 rMulT (w2 rIxTT (wVar 0) (wC (.int 0))) (w2 rIxTT (wVar 1) (wC (.int 0)))) (w2 rMulT (w2 rIxTT (wVar 0) (wC (.int 1))) (w2 rIxTT (wVar 1) (wC (.int 1))))) (w2 rMulT (w2 rIxTT (wVar 0) (wC (.int 2))) (w2 rIxTT (wVar 1) (wC (.int 2))))))
theorem Z3J:∀ts Q,Z1t ts Q->Z2r {nx:=fun _=>Q .non,rt:=Q} (startT 2 ts):=by
 rintro _ Q ⟨a,b,rfl,⟨a1,a2,a3⟩,⟨b1,b2,b3⟩,h⟩
 unfold Z2r
 walk_at "go"
 exact h
def Z0w:SpT:=fun ts Q=>∃a b:Tr,ts=[trT a,trT b]/\Q (trT (a.1 + b.1,a.2.1 + b.2.1,a.2.2 + b.2.2))
theorem Z2B:∀ts Q,Z0w ts Q->ts.length=2:=by rintro ts Q ⟨_,_,e,_⟩;subst e;rfl
def Z1B:WS :=
 (sRet (wTup (aCons (w2 rAddT (w2 rIxTT (wVar 0) (wC (.int 0))) (w2 rIxTT (wVar 1) (wC (.int 0)))) (aCons (w2 rAddT (w2 rIxTT (wVar 0) (wC (.int 1))) (w2 rIxTT (wVar 1) (wC (.int 1)))) (aCons (w2 rAddT (w2 rIxTT (wVar 0) (wC (.int 2))) (w2 rIxTT (wVar 1) (wC (.int 2)))) aNil)))))
theorem Z2K:∀ts Q,Z0w ts Q->Z1B {nx:=fun _=>Q .non,rt:=Q} (startT 2 ts):=by
 rintro _ Q ⟨a,b,rfl,h⟩
 unfold Z1B
 walk_at "go"
 exact h
def Z09:SpT:=fun ts Q=>∃(a:Tr) (m:Int),ts=[trT a,.int m]/\LimT 12 a/\Lim 12 m/\Q (trT (a.1 * m,a.2.1 * m,a.2.2 * m))
theorem Z2i:∀ts Q,Z09 ts Q->ts.length=2:=by rintro ts Q ⟨_,_,e,_⟩;subst e;rfl
def Z1e:WS :=
 (sRet (wTup (aCons (w2 rMulT (w2 rIxTT (wVar 0) (wC (.int 0))) (wVar 1)) (aCons (w2 rMulT (w2 rIxTT (wVar 0) (wC (.int 1))) (wVar 1)) (aCons (w2 rMulT (w2 rIxTT (wVar 0) (wC (.int 2))) (wVar 1)) aNil)))))
theorem Z2s:∀ts Q,Z09 ts Q->Z1e {nx:=fun _=>Q .non,rt:=Q} (startT 2 ts):=by
 rintro _ Q ⟨a,m,rfl,⟨a1,a2,a3⟩,lm,h⟩
 unfold Z1e
 walk_at "go"
 exact h
def aff(m:Int)(c t:Tr):Tr:=(m * t.1 + c.1,m * t.2.1 + c.2.1,m * t.2.2 + c.2.2)
abbrev O3:Tr:=(0,0,0)
theorem aff_id(t:Tr):aff 1 O3 t=t:=by simp[aff]
inductive RwM (m:Int):T->Prop where
 | tup:RwM m (.tup [tri m 0 0,tri 0 m 0,tri 0 0 m])
 | lst:RwM m (.lst [tri m 0 0,tri 0 m 0,tri 0 0 m])
theorem same1:RwM 1 c_SAME:=.tup
abbrev noY:T:=.exf "NoYard" "name" .non
abbrev Mk(m:Int):Prop:=1<=m/\m<=1000
theorem nm_lim{i:Int}(h:Nm i):Lim 12 i:=by
 have:i.natAbs<=1000000000:=h
 exact Lim.of (by omega) (by omega)
theorem nmT_lim{t:Tr}(h:NmT t):LimT 12 t:=⟨nm_lim h.1,nm_lim h.2.1,nm_lim h.2.2⟩
def Z05:SpX:=fun R ts Q=>∃(rw:T) (m:Int) (t c:Tr),ts=[rw,trT t,trT c]/\RwM m rw/\Mk m/\NmT t/\(nmB3 (aff m c t)=true->Q (trT (aff m c t)))/\(nmB3 (aff m c t)=false->R noY)
theorem Z3d:∀R ts Q,Z05 R ts Q->ts.length=3:=fun R ts Q ⟨_,_,_,_,e,_⟩=>by subst e;rfl
def Z2a(R:T->Prop):WS :=
 (sSeq (sSet 3 (wCall Z0w (aCons (wCB rTupleT (aCons (wComp (iSeq (wVar 0)) (gN 0) tTrue (wCall Z1t (aCons (wVar 0) (aCons (wVar 1) aNil))) 1 [1]) aNil)) (aCons (wVar 2) aNil))))
  (sSeq (sIf (tNotT (tVal (wCall Z0g (aCons (wVar 3) aNil)))) (sRaiseF R "NoYard" "name" (wC .non)) sNext)
  (sRet (wVar 3))))
theorem Z3q:∀R ts Q,Z05 R ts Q->Z2a R {nx:=fun _=>Q .non,rt:=Q} (startT 4 ts):=by
 rintro R _ Q ⟨rw,m,t,c,rfl,hrw,hm,nt,h1,h2⟩
 have lt:=nmT_lim nt
 have lm:Lim 12 m:=Lim.of (by omega) (by omega)
 have l0:Lim 12 (0:Int):=Lim.of (by decide) (by decide)
 have e:(dotI (m,0,0) t + c.1,dotI (0,m,0) t + c.2.1,dotI (0,0,m) t + c.2.2)=aff m c t:=by
  simp only[dotI,aff]
  refine Prod.ext ?_ (Prod.ext ?_ ?_)<;>simp
 have fr:FldT .non:=trivial
 have fin:nmB3 (aff m c t)=true∨nmB3 (aff m c t)=false:=by cases nmB3 (aff m c t)<;>simp
 unfold Z2a
 cases hrw
 all_goals
  walk_at "go"
  refine⟨(m,0,0),t,rfl,⟨lm,l0,l0⟩,lt,?_⟩
  walk_at "go"
  refine⟨(0,m,0),t,rfl,⟨l0,lm,l0⟩,lt,?_⟩
  walk_at "go"
  refine⟨(0,0,m),t,rfl,⟨l0,l0,lm⟩,lt,?_⟩
  walk_at "go"
  refine⟨(dotI (m,0,0) t,dotI (0,m,0) t,dotI (0,0,m) t),c,rfl,?_⟩
  rw[show trT (dotI (m,0,0) t + c.1,dotI (0,m,0) t + c.2.1,dotI (0,0,m) t + c.2.2)=trT (aff m c t) from congrArg trT e]
  walk_at "go"
  refine⟨_,rfl,?_⟩
  rcases fin with f|f
  ·rw[f]
   exact⟨(fun z=>by cases z),fun _=>h1 f⟩
  ·rw[f]
   exact⟨fun _=>⟨fr,h2 f⟩,fun z=>by cases z⟩
def affP(m:Int)(c:Tr)(p:Tr×Tr×Tr):Tr×Tr×Tr:=(aff m c p.1,aff m O3 p.2.1,aff m O3 p.2.2)
def plB(p:Tr×Tr×Tr):Bool:=nmB3 p.1&&(nmB3 p.2.1&&nmB3 p.2.2)
abbrev pT(p:Tr×Tr×Tr):T:=ptl p.1 p.2.1 p.2.2
abbrev NmP(x:Tr×Tr×Tr):Prop:=NmT x.1/\NmT x.2.1/\NmT x.2.2
def Z04:SpX:=fun R ts Q=>∃(rw:T) (m:Int) (p:Tr×Tr×Tr) (c:Tr),ts=[rw,pT p,trT c]/\RwM m rw/\Mk m/\NmP p/\(plB (affP m c p)=true->Q (pT (affP m c p)))/\(plB (affP m c p)=false->R noY)
theorem Z2b:∀R ts Q,Z04 R ts Q->ts.length=3:=fun R ts Q ⟨_,_,_,_,e,_⟩=>by subst e;rfl
def Z0Y(R:T->Prop):WS :=
 (sRet (wTup (aCons (wCall (Z05 R) (aCons (wVar 0) (aCons (w2 rIxTT (wVar 1) (wC (.int 0))) (aCons (wVar 2) aNil)))) (aCons (wCall (Z05 R) (aCons (wVar 0) (aCons (w2 rIxTT (wVar 1) (wC (.int 1))) (aCons (wC c_NOUGHT) aNil)))) (aCons (wCall (Z05 R) (aCons (wVar 0) (aCons (w2 rIxTT (wVar 1) (wC (.int 2))) (aCons (wC c_NOUGHT) aNil)))) aNil)))))
theorem Z2j:∀R ts Q,Z04 R ts Q->Z0Y R {nx:=fun _=>Q .non,rt:=Q} (startT 3 ts):=by
 rintro R _ Q ⟨rw,m,p,c,rfl,hrw,hm,⟨n1,n2,n3⟩,h1,h2⟩
 unfold plB at h1 h2
 have hb:∀(t c:Tr)(Q:T->Prop),NmT t->(nmB3 (aff m c t)=true->Q (trT (aff m c t)))->(nmB3 (aff m c t)=false->R noY)->Z05 R [rw,trT t,trT c] Q:=fun t c Q a b d=>⟨rw,m,t,c,rfl,hrw,hm,a,b,d⟩
 obtain⟨SB,hSB⟩:∃S,S=Z05 R:=⟨_,rfl⟩
 unfold Z0Y
 rw[← hSB]at hb ⊢
 walk_at "tw"
 refine hb _ _ _ n1 (fun f1=>?_) fun f1=>h2 (by simp only[affP];rw[f1,Bool.false_and])
 refine hb _ O3 _ n2 (fun f2=>?_) fun f2=>h2 (by simp only[affP];rw[f2,Bool.false_and,Bool.and_false])
 refine hb _ O3 _ n3 (fun f3=>?_) fun f3=>h2 (by simp only[affP];rw[f3,Bool.and_false,Bool.and_false])
 exact h1 (by simp only[affP];rw[f1,f2,f3];rfl)
def walA(m:Int)(c:Tr)(x:Wl):Wl:=(x.1,affP m c x.2)
def dilA(m:Int)(c:Tr)(x:Dl):Dl:=(walA m c x.1,aff m c x.2)
def affY(m:Int)(c:Tr)(y:Yd):Yd:=⟨y.suns,y.wals.map (walA m c),y.dils.map (dilA m c)⟩
def walB(x:Wl):Bool:=plB x.2
def dilB(x:Dl):Bool:=plB x.1.2&&nmB3 x.2
def ydB(y:Yd):Bool:=y.wals.all walB&&y.dils.all dilB
theorem plB_iff{p:Tr×Tr×Tr}:plB p=true ↔ NmP p:=by
 unfold plB
 rw[Bool.and_eq_true,Bool.and_eq_true,nmB3_iff,nmB3_iff,nmB3_iff]
theorem affY_ok{m:Int}{c:Tr}{y:Yd}(Y:YdOk y)(h:ydB (affY m c y)=true):YdOk (affY m c y):=by
 unfold ydB at h
 rw[Bool.and_eq_true,List.all_eq_true,List.all_eq_true]at h
 refine⟨Y.ls,by show (y.wals.map _).length<=50;rw[List.length_map];exact Y.lw,by show (y.dils.map _).length<=50;rw[List.length_map];exact Y.ld,by show (y.wals.map _).length + (y.dils.map _).length<=45;rw[List.length_map,List.length_map];exact Y.lt,Y.os,fun x hx=>?_,fun x hx=>?_⟩
 ·obtain⟨a,ha,rfl⟩:=List.mem_map.mp hx
  have:=plB_iff.mp (h.1 _ hx)
  exact⟨(Y.ow a ha).1,this.1,this.2.1,this.2.2⟩
 ·obtain⟨a,ha,rfl⟩:=List.mem_map.mp hx
  have hb:=h.2 _ hx
  unfold dilB at hb
  rw[Bool.and_eq_true]at hb
  have:=plB_iff.mp hb.1
  exact⟨⟨(Y.od a ha).1.1,this.1,this.2.1,this.2.2⟩,nmB3_iff.mp hb.2⟩
def Z06:SpX:=fun R ts Q=>∃(rw:T) (m:Int) (y:Yd) (c:Tr),ts=[c_SAME,rw,ydT y,trT c]/\RwM m rw/\Mk m/\YdOk y/\(ydB (affY m c y)=true->Q (ydT (affY m c y)))/\(ydB (affY m c y)=false->R noY)
theorem Z2k:∀R ts Q,Z06 R ts Q->ts.length=4:=fun R ts Q ⟨_,_,_,_,e,_⟩=>by subst e;rfl
def Z0r(R:T->Prop):WE :=
 (wTup (aCons (w2 rIxTT (wVar 0) (wC (.int 0))) (aCons (wCall (Z05 R) (aCons (wVar 1) (aCons (w2 rIxTT (wVar 0) (wC (.int 1))) (aCons (wC c_NOUGHT) aNil)))) aNil)))
def Z0s(R:T->Prop):WE :=
 (wTup (aCons (w2 rIxTT (wVar 0) (wC (.int 0))) (aCons (wCall (Z04 R) (aCons (wVar 1) (aCons (w2 rIxTT (wVar 0) (wC (.int 1))) (aCons (wVar 2) aNil)))) aNil)))
def Z0t(R:T->Prop):WE :=
 (wTup (aCons (w2 rIxTT (wVar 0) (wC (.int 0))) (aCons (wCall (Z04 R) (aCons (wVar 1) (aCons (w2 rIxTT (wVar 0) (wC (.int 1))) (aCons (wVar 2) aNil)))) (aCons (wCall (Z05 R) (aCons (wVar 1) (aCons (w2 rIxTT (wVar 0) (wC (.int 2))) (aCons (wVar 2) aNil)))) aNil))))
def Z1f(R:T->Prop):WS :=
 (sSeq (sNoR (sOwnC 4 (wComp (iSeq (w2 rIxTT (wVar 2) (wC (.int 0)))) (gN 0) tTrue (Z0r R) 1 [0])))
  (sSeq (sNoR (sOwnC 5 (wComp (iSeq (w2 rIxTT (wVar 2) (wC (.int 1)))) (gN 0) tTrue (Z0s R) 1 [1,3])))
  (sSeq (sNoR (sOwnC 6 (wComp (iSeq (w2 rIxTT (wVar 2) (wC (.int 2)))) (gN 0) tTrue (Z0t R) 1 [1,3])))
  (sRetW [4,5,6]))))
theorem sun_c0{R:T->Prop}{Q:List T->Prop}:∀(ss:List (Int×Tr))(acc:List T)(s:Slot),(∀x∈ss,SunOk x)->Q (acc++ss.map sunE)->compT (gN 0) tTrue (Z0r R) (ss.map sunE) acc [s,.val c_SAME] Q
 | [],acc,s,_,h=>by
  simp only[List.map_nil,List.append_nil,compT]at h ⊢
  exact h
 | x::ss,acc,s,hs,h=>by
  have ih:=fun (acc:List T) (s:Slot) h=>sun_c0 (R:=R) (Q:=Q) ss acc s (fun y hy=>hs y (List.mem_cons_of_mem _ hy)) h
  have ok:=(hs x List.mem_cons_self).2
  have hb:∀Q:T->Prop,Q (trT x.2)->Z05 R [c_SAME,trT x.2,c_NOUGHT] Q:=fun Q q=>⟨c_SAME,1,x.2,O3,rfl,same1,⟨by decide,by decide⟩,ok,fun _=>by rw[aff_id];exact q,fun z=>by rw[aff_id,nmB3_iff.mpr ok]at z;cases z⟩
  have h':Q (acc++[sunE x]++ss.map sunE):=by simpa using h
  simp only[List.map_cons,compT]
  generalize compT (gN 0) tTrue (Z0r R) (ss.map sunE)=F at ih ⊢
  unfold Z0r
  obtain⟨SB,hSB⟩:∃S,S=Z05 R:=⟨_,rfl⟩
  rw[← hSB]at hb ⊢
  clear hSB
  unfold sunE
  walk_at "tw"
  exact⟨fun _=>hb _ (ih _ _ h'),fun z=>by cases z⟩
theorem wal_c1{R:T->Prop}{Q:List T->Prop}{rw:T}{m:Int}{c:Tr}(hrw:RwM m rw)(hm:Mk m):∀(ss:List Wl)(acc:List T)(s:Slot),(∀x∈ss,WlOk x)->((ss.map (walA m c)).all walB=true->Q (acc++ss.map fun x=>walE (walA m c x)))->((ss.map (walA m c)).all walB=false->R noY)->compT (gN 0) tTrue (Z0s R) (ss.map walE) acc [s,.val rw,.val (trT c)] Q
 | [],acc,s,_,h,_=>by
  have:=h rfl
  simp only[List.map_nil,List.append_nil,compT]at this ⊢
  exact this
 | x::ss,acc,s,hs,h,h2=>by
  have ih:=fun (acc:List T) (s:Slot) h h2=>wal_c1 (R:=R) (Q:=Q) (c:=c) hrw hm ss acc s (fun y hy=>hs y (List.mem_cons_of_mem _ hy)) h h2
  have ok:=(hs x List.mem_cons_self).2
  have hb:∀Q:T->Prop,(plB (affP m c x.2)=true->Q (pT (affP m c x.2)))->(plB (affP m c x.2)=false->R noY)->Z04 R [rw,ptl x.2.1 x.2.2.1 x.2.2.2,trT c] Q:=fun Q a b=>⟨rw,m,x.2,c,rfl,hrw,hm,ok,a,b⟩
  simp only[List.map_cons,compT,List.all_cons]at h h2 ⊢
  generalize compT (gN 0) tTrue (Z0s R) (ss.map walE)=F at ih ⊢
  unfold Z0s
  obtain⟨SB,hSB⟩:∃S,S=Z04 R:=⟨_,rfl⟩
  rw[← hSB]at hb ⊢
  clear hSB
  unfold walE
  walk_at "tw"
  refine⟨fun _=>hb _ (fun f=>ih _ _ (fun g=>?_) fun g=>h2 (by rw[g,Bool.and_false])) fun f=>h2 (by rw[show walB (walA m c x)=false from f,Bool.false_and]),fun z=>by cases z⟩
  have:=h (by rw[show walB (walA m c x)=true from f,g];rfl)
  simpa [walE,walA] using this
theorem dil_c2{R:T->Prop}{Q:List T->Prop}{rw:T}{m:Int}{c:Tr}(hrw:RwM m rw)(hm:Mk m):∀(ss:List Dl)(acc:List T)(s:Slot),(∀x∈ss,DlOk x)->((ss.map (dilA m c)).all dilB=true->Q (acc++ss.map fun x=>dilE (dilA m c x)))->((ss.map (dilA m c)).all dilB=false->R noY)->compT (gN 0) tTrue (Z0t R) (ss.map dilE) acc [s,.val rw,.val (trT c)] Q
 | [],acc,s,_,h,_=>by
  have:=h rfl
  simp only[List.map_nil,List.append_nil,compT]at this ⊢
  exact this
 | x::ss,acc,s,hs,h,h2=>by
  have ih:=fun (acc:List T) (s:Slot) h h2=>dil_c2 (R:=R) (Q:=Q) (c:=c) hrw hm ss acc s (fun y hy=>hs y (List.mem_cons_of_mem _ hy)) h h2
  have ok:=hs x List.mem_cons_self
  have hb:∀Q:T->Prop,(plB (affP m c x.1.2)=true->Q (pT (affP m c x.1.2)))->(plB (affP m c x.1.2)=false->R noY)->Z04 R [rw,ptl x.1.2.1 x.1.2.2.1 x.1.2.2.2,trT c] Q:=fun Q a b=>⟨rw,m,x.1.2,c,rfl,hrw,hm,ok.1.2,a,b⟩
  have ht:∀Q:T->Prop,(nmB3 (aff m c x.2)=true->Q (trT (aff m c x.2)))->(nmB3 (aff m c x.2)=false->R noY)->Z05 R [rw,trT x.2,trT c] Q:=fun Q a b=>⟨rw,m,x.2,c,rfl,hrw,hm,ok.2,a,b⟩
  simp only[List.map_cons,compT,List.all_cons]at h h2 ⊢
  generalize compT (gN 0) tTrue (Z0t R) (ss.map dilE)=F at ih ⊢
  unfold Z0t
  obtain⟨SB,hSB⟩:∃S,S=Z04 R:=⟨_,rfl⟩
  obtain⟨SR,hSR⟩:∃S,S=Z05 R:=⟨_,rfl⟩
  rw[← hSB]at hb
  rw[← hSR]at ht
  rw[← hSB,← hSR]
  clear hSB hSR
  unfold dilE
  have eB:dilB (dilA m c x)=(plB (affP m c x.1.2)&&nmB3 (aff m c x.2)):=rfl
  rw[eB]at h h2
  walk_at "tw"
  refine⟨fun _=>hb _ (fun f=>ht _ (fun f2=>ih _ _ (fun g=>?_) fun g=>h2 (by rw[g,Bool.and_false])) fun f2=>h2 (by rw[f2,Bool.and_false,Bool.false_and])) fun f=>h2 (by rw[f,Bool.false_and,Bool.false_and]),fun z=>by cases z⟩
  have:=h (by rw[f,f2,g];rfl)
  simpa [dilE,dilA,walA] using this
theorem noL_sun(ss:List (Int×Tr)):noLs (ss.map sunE)=true:=by
 induction ss with
 | nil=>rfl
 | cons x r ih=>simp only[List.map_cons,noLs,ih,Bool.and_true];rfl
theorem noL_wal(ss:List Wl):noLs (ss.map walE)=true:=by
 induction ss with
 | nil=>rfl
 | cons x r ih=>simp only[List.map_cons,noLs,ih,Bool.and_true];rfl
theorem noL_dil(ss:List Dl):noLs (ss.map dilE)=true:=by
 induction ss with
 | nil=>rfl
 | cons x r ih=>simp only[List.map_cons,noLs,ih,Bool.and_true];rfl
theorem Z2t:∀R ts Q,Z06 R ts Q->Z1f R {nx:=fun _=>False,rt:=Q} (startT 7 ts):=by
 rintro R _ Q ⟨rw,m,y,c,rfl,hrw,hm,Y,h1,h2⟩
 have a0:atI (ydL y) 0=some (.lst (y.suns.map sunE)):=atI_nat (j:=0) rfl
 have a1:atI (ydL y) 1=some (.lst (y.wals.map walE)):=atI_nat (j:=1) rfl
 have a2:atI (ydL y) 2=some (.lst (y.dils.map dilE)):=atI_nat (j:=2) rfl
 have l0:(y.suns.map sunE).length<=1000:=by rw[List.length_map];have:=Y.ls;omega
 have l1:(y.wals.map walE).length<=1000:=by rw[List.length_map];have:=Y.lw;omega
 have l2:(y.dils.map dilE).length<=1000:=by rw[List.length_map];have:=Y.ld;omega
 have e1:(affY m c y).wals.all walB=(y.wals.map (walA m c)).all walB:=rfl
 have e2:(affY m c y).dils.all dilB=(y.dils.map (dilA m c)).all dilB:=rfl
 unfold ydB at h1 h2
 rw[e1,e2]at h1 h2
 unfold Z1f
 show (match atI (ydL y) 0 with|some t=>_|none=>False)
 rw[a0]
 refine⟨l0,sun_c0 y.suns [] _ Y.os ?_⟩
 rw[List.nil_append]
 show (match atI (ydL y) 1 with|some t=>_|none=>False)
 rw[a1]
 refine⟨l1,wal_c1 hrw hm y.wals [] _ Y.ow (fun g1=>?_) fun g1=>h2 (by rw[g1,Bool.false_and])⟩
 rw[List.nil_append]
 show (match atI (ydL y) 2 with|some t=>_|none=>False)
 rw[a2]
 refine⟨l2,dil_c2 hrw hm y.dils [] _ Y.od (fun g2=>?_) fun g2=>h2 (by rw[g2,Bool.and_false])⟩
 rw[List.nil_append]
 have q:=h1 (by rw[g1,g2];rfl)
 refine⟨noL_sun _,?_,?_,?_⟩
 ·have:=noL_wal (y.wals.map (walA m c));rwa [List.map_map]at this
 ·have:=noL_dil (y.dils.map (dilA m c));rwa [List.map_map]at this
 ·have eq:ydT (affY m c y)=.tup [.lst (y.suns.map sunE),.lst (y.wals.map fun x=>walE (walA m c x)),.lst (y.dils.map fun x=>dilE (dilA m c x))]:=by
   simp only[ydT,ydL,affY,List.map_map]
   rfl
  rw[eq]at q
  exact q
def Z01:SpX:=fun R ts Q=>∃(y:Yd) (c:Tr),ts=[ydT y,trT c]/\YdOk y/\(ydB (affY 1 c y)=true->Q (ydT (affY 1 c y)))/\(ydB (affY 1 c y)=false->R noY)
theorem Z2C:∀R ts Q,Z01 R ts Q->ts.length=2:=fun R ts Q ⟨_,_,e,_⟩=>by subst e;rfl
def Z26(R:T->Prop):WS :=
 (sRet (wCall (Z06 R) (aCons (wC c_SAME) (aCons (wC c_SAME) (aCons (wVar 0) (aCons (wVar 1) aNil))))))
theorem Z2L:∀R ts Q,Z01 R ts Q->Z26 R {nx:=fun _=>False,rt:=Q} (startT 2 ts):=by
 rintro R _ Q ⟨y,c,rfl,Y,h1,h2⟩
 exact⟨c_SAME,1,y,c,rfl,same1,⟨by decide,by decide⟩,Y,h1,h2⟩
def Z02:SpX:=fun R ts Q=>∃(y:Yd) (m:Int),ts=[ydT y,.int m]/\YdOk y/\Mk m/\(ydB (affY m O3 y)=true->Q (ydT (affY m O3 y)))/\(ydB (affY m O3 y)=false->R noY)
theorem Z2l:∀R ts Q,Z02 R ts Q->ts.length=2:=fun R ts Q ⟨_,_,e,_⟩=>by subst e;rfl
def Z1g(R:T->Prop):WS :=
 (sSeq (sNoR (sSet 2 (wComp (iSeq (wC c_SAME)) (gN 0) tTrue (wCall Z09 (aCons (wVar 0) (aCons (wVar 1) aNil))) 1 [1])))
  (sRet (wCall (Z06 R) (aCons (wC c_SAME) (aCons (wVar 2) (aCons (wVar 0) (aCons (wC c_NOUGHT) aNil)))))))
theorem Z2u:∀R ts Q,Z02 R ts Q->Z1g R {nx:=fun _=>False,rt:=Q} (startT 3 ts):=by
 rintro R _ Q ⟨y,m,rfl,Y,hm,h1,h2⟩
 have ht:∀(a:Tr)(Q:T->Prop),LimT 12 a->Q (trT (a.1 * m,a.2.1 * m,a.2.2 * m))->Z09 [trT a,.int m] Q:=fun a Q la q=>⟨a,m,rfl,la,Lim.of (by omega) (by omega),q⟩
 have hy:∀(Q:T->Prop),(ydB (affY m O3 y)=true->Q (ydT (affY m O3 y)))->(ydB (affY m O3 y)=false->R noY)->Z06 R [c_SAME,.lst [tri m 0 0,tri 0 m 0,tri 0 0 m],ydT y,c_NOUGHT] Q:=fun Q a b=>⟨_,m,y,O3,rfl,.lst,hm,Y,a,b⟩
 have l0:Lim 12 (0:Int):=Lim.of (by decide) (by decide)
 have l1:Lim 12 (1:Int):=Lim.of (by decide) (by decide)
 obtain⟨ST,hST⟩:∃S,S=Z09:=⟨_,rfl⟩
 obtain⟨SY,hSY⟩:∃S,S=Z06 R:=⟨_,rfl⟩
 unfold Z1g
 rw[← hST]at ht
 rw[← hSY]at hy
 rw[← hST,← hSY]
 clear hST hSY
 walk_at "tw"
 refine⟨fun _=>ht (1,0,0) _ ⟨l1,l0,l0⟩ ⟨fun _=>ht (0,1,0) _ ⟨l0,l1,l0⟩ ⟨fun _=>ht (0,0,1) _ ⟨l0,l0,l1⟩ ?_,fun z=>by cases z⟩,fun z=>by cases z⟩,fun z=>by cases z⟩
 simp only[Int.one_mul,Int.zero_mul]
 exact hy _ h1 h2
abbrev zN:Str:=Str.ofString "none"
def Z0x:SpT:=fun ts Q=>(∃(y:Yd) (c:Tr),ts=[.int 0,ydT y,trT c]/\YdOk y/\(ydB (affY 1 c y)=true->Q (ydT (affY 1 c y)))/\(ydB (affY 1 c y)=false->Q (.str zN))) ∨
 ∃(y:Yd) (m:Int),ts=[.int 1,ydT y,.int m]/\YdOk y/\Mk m/\(ydB (affY m O3 y)=true->Q (ydT (affY m O3 y)))/\(ydB (affY m O3 y)=false->Q (.str zN))
theorem Z41:∀ts Q,Z0x ts Q->ts.length=3:=by
 rintro ts Q (⟨_,_,e,_⟩|⟨_,_,e,_⟩)<;>(subst e;rfl)
def Z3e:WS :=
 (sSeq (sNoR (sSet 3 (wC .non)))
  (sSeq (sNoR (sSet 4 (wC .non)))
  (sTold (fun R=>(fun τ Q=>(tCmpT cEqT (wVar 0) (wC (.int 0))) τ fun k=>(k=true->(wCall (Z01 R) (aCons (wVar 1) (aCons (wVar 2) aNil))) τ Q)/\(k=false->(wCall (Z02 R) (aCons (wVar 1) (aCons (wVar 2) aNil))) τ Q))) 5 3 4 ["NoYard"] (tCmpT cIsN (wVar 3) (wC .non)) (sSeq (sIf (tVal (wIsE [("NoYard", false)] (wVar 3))) (sRet (wC (.str (Str.ofString "another")))) sNext)
  (sSeq (sIf (tOrT (tNotT (tVal (wIsE [("NoYard", true)] (wVar 3)))) (tOrT (tNotT (tVal (wIsE [("NoYard", true)] (wVar 3)))) (tCmpT cNotN (wFld "name" ["NoYard"] (wVar 3)) (wC .non)))) (sRet (wC (.str (Str.ofString "another")))) sNext)
  (sRet (wC (.str (Str.ofString "none")))))))))
abbrev tdRest:WS:=(sSeq (sIf (tVal (wIsE [("NoYard", false)] (wVar 3))) (sRet (wC (.str (Str.ofString "another")))) sNext)
  (sSeq (sIf (tOrT (tNotT (tVal (wIsE [("NoYard", true)] (wVar 3)))) (tOrT (tNotT (tVal (wIsE [("NoYard", true)] (wVar 3)))) (tCmpT cNotN (wFld "name" ["NoYard"] (wVar 3)) (wC .non)))) (sRet (wC (.str (Str.ofString "another")))) sNext)
  (sRet (wC (.str (Str.ofString "none"))))))
theorem td_rest{D:DT}{s0 s1 s2 s4 s5:Slot}(h:D.rt (.str zN)):(sSeq (sIf (tCmpT cIsN (wVar 3) (wC .non)) (sRet (wVar 4)) sNext) tdRest) (noLD D) [s0,s1,s2,.val noY,s4,s5]:=by
 have l1:List.lookup (Str.ofString "NoYard") [((Str.ofString "NoYard"),false)]=some false:=by decide +kernel
 have l2:List.lookup (Str.ofString "NoYard") [((Str.ofString "NoYard"),true)]=some true:=by decide +kernel
 have m:Str.ofString "NoYard" ∈ [Str.ofString "NoYard"]:=List.mem_singleton.mpr rfl
 unfold tdRest
 walk_at "tw"
 rw[l1,l2]
 exact⟨(fun q=>by cases q),fun _=>⟨(fun q=>by cases q),fun _=>⟨(fun q=>by cases q),fun _=>⟨(fun q=>by cases q),fun _=>⟨m,(fun q=>by cases q),fun _=>h⟩⟩⟩⟩⟩
theorem Z4k:∀ts Q,Z0x ts Q->Z3e {nx:=fun _=>False,rt:=Q} (startT 6 ts):=by
 intro ts Q h
 have hm:=fun (y:Yd) (c:Tr) (Y:YdOk y) (R Q:T->Prop) (a:ydB (affY 1 c y)=true->Q (ydT (affY 1 c y))) (b:ydB (affY 1 c y)=false->R noY)=>(show Z01 R [ydT y,trT c] Q from ⟨y,c,rfl,Y,a,b⟩)
 have hg:=fun (y:Yd) (m:Int) (Y:YdOk y) (k:Mk m) (R Q:T->Prop) (a:ydB (affY m O3 y)=true->Q (ydT (affY m O3 y))) (b:ydB (affY m O3 y)=false->R noY)=>(show Z02 R [ydT y,.int m] Q from ⟨y,m,rfl,Y,k,a,b⟩)
 have rest:=fun (s0 s1 s2 s4 s5:Slot) (q:Q (.str zN))=>td_rest (D:={nx:=fun _=>False,rt:=Q}) (s0:=s0) (s1:=s1) (s2:=s2) (s4:=s4) (s5:=s5) q
 have mem:Str.ofString "NoYard" ∈ [Str.ofString "NoYard"]:=List.mem_singleton.mpr rfl
 obtain⟨SM,hSM⟩:∃S,S=Z01:=⟨_,rfl⟩
 obtain⟨SG,hSG⟩:∃S,S=Z02:=⟨_,rfl⟩
 obtain⟨WR,hWR⟩:∃S,S=tdRest:=⟨_,rfl⟩
 unfold Z3e
 rw[← hSM]at hm
 rw[← hSG]at hg
 rw[← hWR]at rest
 unfold tdRest at hWR
 rw[← hSM,← hSG,← hWR]
 clear hSM hSG hWR
 rcases h with ⟨y,c,rfl,Y,h1,h2⟩|⟨y,m,rfl,Y,k,h1,h2⟩
 ·refine⟨⟨by show 4 < 6;decide,rfl,fun _=>rfl⟩,fun _=>hm y c Y _ _ h1 fun f=>⟨mem,rest _ _ _ _ _ (h2 f)⟩,fun z=>by cases z⟩
 ·refine⟨⟨by show 4 < 6;decide,rfl,fun _=>rfl⟩,(fun z=>by cases z),fun _=>hg y m Y k _ _ h1 fun f=>⟨mem,rest _ _ _ _ _ (h2 f)⟩⟩
theorem aff_mv(c t:Tr):trT (aff 1 c t)=trT (t.1 + c.1,t.2.1 + c.2.1,t.2.2 + c.2.2):=by simp[aff]
def Z0M:SpT:=fun ts Q=>∃(y:Yd) (c:Tr),ts=[ydT y,trT c]/\YdOk y/\Q (ydT (affY 1 c y))
theorem Z3K:∀ts Q,Z0M ts Q->ts.length=2:=by rintro ts Q ⟨_,_,e,_⟩;subst e;rfl
def Z1c:WS :=
 (sApp 2 (wTup (aCons (wVar 4) (aCons (wTup (aCons (wCB rTupleT (aCons (wComp (iZip (aCons (w2 rIxTT (wVar 5) (wC (.int 0))) (aCons (wVar 1) aNil))) (gT 2 (gsC (gN 0) (gsC (gN 1) gs0))) tTrue (w2 rAddT (wVar 0) (wVar 1)) 2 []) aNil)) (aCons (w2 rIxTT (wVar 5) (wC (.int 1))) (aCons (w2 rIxTT (wVar 5) (wC (.int 2))) aNil)))) aNil))))
def Z1d:WS :=
 (sSeq (sSet 7 (wTup (aCons (wCB rTupleT (aCons (wComp (iZip (aCons (w2 rIxTT (wVar 5) (wC (.int 0))) (aCons (wVar 1) aNil))) (gT 2 (gsC (gN 0) (gsC (gN 1) gs0))) tTrue (w2 rAddT (wVar 0) (wVar 1)) 2 []) aNil)) (aCons (w2 rIxTT (wVar 5) (wC (.int 1))) (aCons (w2 rIxTT (wVar 5) (wC (.int 2))) aNil)))))
  (sApp 3 (wTup (aCons (wVar 4) (aCons (wVar 7) (aCons (wCB rTupleT (aCons (wComp (iZip (aCons (wVar 6) (aCons (wVar 1) aNil))) (gT 2 (gsC (gN 0) (gsC (gN 1) gs0))) tTrue (w2 rAddT (wVar 0) (wVar 1)) 2 []) aNil)) aNil))))))
def Z2M:WS :=
 (sSeq (sOwn 2 aNil)
  (sSeq (sOwn 3 aNil)
  (sSeq (sFor (iSeq (w2 rIxTT (wVar 0) (wC (.int 1)))) (gT 2 (gsC (gN 4) (gsC (gN 5) gs0))) Z1c)
  (sSeq (sFor (iSeq (w2 rIxTT (wVar 0) (wC (.int 2)))) (gT 3 (gsC (gN 4) (gsC (gN 5) (gsC (gN 6) gs0)))) Z1d)
  (sFrz 3 (sFrz 2 (sRet (wTup (aCons (w2 rIxTT (wVar 0) (wC (.int 0))) (aCons (wVar 2) (aCons (wVar 3) aNil)))))))))))
theorem comp_all{α:Type}{g:TGt}{we:WE}{P:List Slot->Prop}{e f:α->T}:∀(xs:List α)(acc:List T)(τ:List Slot)(Q:List T->Prop),P τ->(∀x∈xs,∀τ,P τ->∀K:List Slot->Prop,(∀τ1,P τ1->(∀Q:T->Prop,Q (f x)->we τ1 Q)->K τ1)->g (e x) τ K)->Q (acc++xs.map f)->compT g tTrue we (xs.map e) acc τ Q
 | [],acc,τ,Q,_,_,h=>by
  simp only[List.map_nil,List.append_nil,compT]at h ⊢
  exact h
 | x::xs,acc,τ,Q,p,hs,h=>by
  simp only[List.map_cons,compT]
  refine hs x List.mem_cons_self τ p _ fun τ1 p1 hw=>⟨fun _=>hw _ (comp_all xs _ τ1 Q p1 (fun y hy=>hs y (List.mem_cons_of_mem _ hy)) ?_),fun z=>by cases z⟩
  simpa using h
abbrev wAd(e:WE):WE:=(wCB rTupleT (aCons (wComp (iZip (aCons e (aCons (wVar 1) aNil))) (gT 2 (gsC (gN 0) (gsC (gN 1) gs0))) tTrue (w2 rAddT (wVar 0) (wVar 1)) 2 []) aNil))
theorem add_ok(a c:Tr)(Q:T->Prop)(q:Q (trT (aff 1 c a))):compT (gT 2 (gsC (gN 0) (gsC (gN 1) gs0))) tTrue (w2 rAddT (wVar 0) (wVar 1)) [.tup [.int a.1,.int c.1],.tup [.int a.2.1,.int c.2.1],.tup [.int a.2.2,.int c.2.2]] [] [Slot.no,Slot.no] fun rs=>Q (.tup rs):=by
 refine comp_all (P:=fun τ=>∃s0 s1,τ=[s0,s1]) (e:=fun x:Int×Int=>.tup [.int x.1,.int x.2]) (f:=fun x=>.int (x.1 + x.2)) [(a.1,c.1),(a.2.1,c.2.1),(a.2.2,c.2.2)] [] _ _ ⟨_,_,rfl⟩ ?_ ?_
 ·rintro x _ _ ⟨s0,s1,rfl⟩ K k
  walk_at "tw"
  exact k [.val (.int x.1),.val (.int x.2)] ⟨_,_,rfl⟩ fun Q q=>q
 ·rw[aff_mv]at q
  exact q
theorem mv_l0{s0 s6 s7:Slot}{c:Tr}{ds:List T}{D:DT}:∀(ws:List Wl)(acc:List T)(s4 s5:Slot),acc.length + ws.length<=900->(∀s4 s5,D.nx [s0,.val (trT c),.own (acc++ws.map fun x=>walE (walA 1 c x)),.own ds,s4,s5,s6,s7]) →
  forT (gT 2 (gsC (gN 4) (gsC (gN 5) gs0))) Z1c (ws.map walE) D [s0,.val (trT c),.own acc,.own ds,s4,s5,s6,s7]
 | [],acc,s4,s5,_,h=>by
  have:=h s4 s5
  simp only[List.map_nil,List.append_nil,forT]at this ⊢
  exact this
 | x::ws,acc,s4,s5,hl,h=>by
  have ih:=fun (s4 s5:Slot)=>mv_l0 (s0:=s0) (s6:=s6) (s7:=s7) (c:=c) (ds:=ds) (D:=D) ws (acc++[walE (walA 1 c x)]) s4 s5 (by simp at hl ⊢;omega) (by simpa using h)
  have e:walE (walA 1 c x)=.tup [.str x.1,.tup [trT (aff 1 c x.2.1),trT x.2.2.1,trT x.2.2.2]]:=by
   have a1:=aff_id x.2.2.1
   have a2:=aff_id x.2.2.2
   simp only[walE,walA,affP,ptl,a1,a2]
  rw[e]at ih
  simp only[List.map_cons,forT]
  generalize forT (gT 2 (gsC (gN 4) (gsC (gN 5) gs0))) Z1c (ws.map walE)=F at ih ⊢
  have hz:∀(s0 s2 s3 s4 s6 s7:Slot)(Q:T->Prop),Q (trT (aff 1 c x.2.1))->wAd (w2 rIxTT (wVar 5) (wC (.int 0))) [s0,.val (trT c),s2,s3,s4,.val (ptl x.2.1 x.2.2.1 x.2.2.2),s6,s7] Q:=fun _ _ _ _ _ _ Q q=>⟨by show 3<=1000;decide,add_ok _ _ _ q⟩
  unfold wAd at hz
  unfold Z1c walE
  generalize (wCB rTupleT (aCons (wComp (iZip (aCons (w2 rIxTT (wVar 5) (wC (.int 0))) (aCons (wVar 1) aNil))) (gT 2 (gsC (gN 0) (gsC (gN 1) gs0))) tTrue (w2 rAddT (wVar 0) (wVar 1)) 2 []) aNil))=Z at hz ⊢
  walk_at "tw"
  exact hz _ _ _ _ _ _ _ ⟨by simp at hl;omega,ih _ _⟩
theorem mv_s1{s0:Slot}{c:Tr}{ws acc:List T}{D:DT}{F:WS}(x:Dl)(s4 s5 s6 s7:Slot)(hl:acc.length < 1000)(ih:∀s4 s5 s6 s7,F D [s0,.val (trT c),.own ws,.own (acc++[dilE (dilA 1 c x)]),s4,s5,s6,s7]) :
  (gT 3 (gsC (gN 4) (gsC (gN 5) (gsC (gN 6) gs0)))) (dilE x) [s0,.val (trT c),.own ws,.own acc,s4,s5,s6,s7] fun τ1=>Z1d {D with nx:=F D,ct:=F D,bk:=D.nx} τ1:=by
 have e:dilE (dilA 1 c x)=.tup [.str x.1.1,.tup [trT (aff 1 c x.1.2.1),trT x.1.2.2.1,trT x.1.2.2.2],trT (aff 1 c x.2)]:=by
  have a1:=aff_id x.1.2.2.1
  have a2:=aff_id x.1.2.2.2
  simp only[dilE,dilA,walA,affP,ptl,a1,a2]
 rw[e]at ih
 have hz:∀(s0 s2 s3 s4 s6 s7:Slot)(Q:T->Prop),Q (trT (aff 1 c x.1.2.1))->wAd (w2 rIxTT (wVar 5) (wC (.int 0))) [s0,.val (trT c),s2,s3,s4,.val (ptl x.1.2.1 x.1.2.2.1 x.1.2.2.2),s6,s7] Q:=fun _ _ _ _ _ _ Q q=>⟨by show 3<=1000;decide,add_ok _ _ _ q⟩
 have hy:∀(s0 s2 s3 s4 s5 s7:Slot)(Q:T->Prop),Q (trT (aff 1 c x.2))->wAd (wVar 6) [s0,.val (trT c),s2,s3,s4,s5,.val (trT x.2),s7] Q:=fun _ _ _ _ _ _ Q q=>⟨by show 3<=1000;decide,add_ok _ _ _ q⟩
 unfold Z1d dilE
 generalize hZ:(wCB rTupleT (aCons (wComp (iZip (aCons (w2 rIxTT (wVar 5) (wC (.int 0))) (aCons (wVar 1) aNil))) (gT 2 (gsC (gN 0) (gsC (gN 1) gs0))) tTrue (w2 rAddT (wVar 0) (wVar 1)) 2 []) aNil))=Z
 rw[show wAd (w2 rIxTT (wVar 5) (wC (.int 0)))=Z from hZ]at hz
 generalize hY:(wCB rTupleT (aCons (wComp (iZip (aCons (wVar 6) (aCons (wVar 1) aNil))) (gT 2 (gsC (gN 0) (gsC (gN 1) gs0))) tTrue (w2 rAddT (wVar 0) (wVar 1)) 2 []) aNil))=Y
 rw[show wAd (wVar 6)=Y from hY]at hy
 clear hZ hY
 refine⟨rfl,?_⟩
 refine hz _ _ _ _ _ _ _ ⟨by show 3<=1000;decide,?_⟩
 exact hy _ _ _ _ _ _ _ ⟨by show 3<=1000;decide,hl,ih _ _ _ _⟩
theorem mv_l1{s0:Slot}{c:Tr}{ws:List T}{D:DT}:∀(ds:List Dl)(acc:List T)(s4 s5 s6 s7:Slot),acc.length + ds.length<=900->(∀s4 s5 s6 s7,D.nx [s0,.val (trT c),.own ws,.own (acc++ds.map fun x=>dilE (dilA 1 c x)),s4,s5,s6,s7]) →
  forT (gT 3 (gsC (gN 4) (gsC (gN 5) (gsC (gN 6) gs0)))) Z1d (ds.map dilE) D [s0,.val (trT c),.own ws,.own acc,s4,s5,s6,s7]
 | [],acc,s4,s5,s6,s7,_,h=>by
  have:=h s4 s5 s6 s7
  simp only[List.map_nil,List.append_nil,forT]at this ⊢
  exact this
 | x::ds,acc,s4,s5,s6,s7,hl,h=>by
  have ih:=fun (s4 s5 s6 s7:Slot)=>mv_l1 (s0:=s0) (c:=c) (ws:=ws) (D:=D) ds (acc++[dilE (dilA 1 c x)]) s4 s5 s6 s7 (by simp at hl ⊢;omega) (by simpa using h)
  simp only[List.map_cons,forT]
  exact mv_s1 x _ _ _ _ (by simp at hl;omega) ih
theorem ydT_aff(m:Int)(c:Tr)(y:Yd):ydT (affY m c y)=.tup [.lst (y.suns.map sunE),.lst (y.wals.map fun x=>walE (walA m c x)),.lst (y.dils.map fun x=>dilE (dilA m c x))]:=by
 simp only[ydT,ydL,affY,List.map_map]
 rfl
theorem Z42:∀ts Q,Z0M ts Q->Z2M {nx:=fun _=>Q .non,rt:=Q} (startT 8 ts):=by
 rintro _ Q ⟨y,c,rfl,Y,h⟩
 rw[ydT_aff]at h
 have a0:atI (ydL y) 0=some (.lst (y.suns.map sunE)):=atI_nat (j:=0) rfl
 have a1:atI (ydL y) 1=some (.lst (y.wals.map walE)):=atI_nat (j:=1) rfl
 have a2:atI (ydL y) 2=some (.lst (y.dils.map dilE)):=atI_nat (j:=2) rfl
 have lw:=Y.lw
 have ld:=Y.ld
 unfold Z2M
 obtain⟨B0,hB0⟩:∃W,W=Z1c:=⟨_,rfl⟩
 obtain⟨B1,hB1⟩:∃W,W=Z1d:=⟨_,rfl⟩
 rw[← hB0,← hB1]
 refine⟨Nat.zero_le _,Nat.zero_le _,?_⟩
 show (match atI (ydL y) 1 with|some t=>_|none=>False)
 rw[a1,hB0]
 refine mv_l0 y.wals [] _ _ (by simp;omega) fun s4 s5=>?_
 rw[List.nil_append]
 show (match atI (ydL y) 2 with|some t=>_|none=>False)
 rw[a2,hB1]
 refine mv_l1 y.dils [] _ _ _ _ (by simp;omega) fun s4 s5 s6 s7=>?_
 rw[List.nil_append]
 show (match atI (ydL y) 0 with|some t=>_|none=>False)
 rw[a0]
 exact⟨by show 3<=1000;decide,h⟩
def Z0o:SpT:=fun ts Q=>∃(y:Yd) (m:Int),ts=[ydT y,.int m]/\YdOk y/\Mk m/\Q (ydT (affY m O3 y))
theorem Z3f:∀ts Q,Z0o ts Q->ts.length=2:=by rintro ts Q ⟨_,_,e,_⟩;subst e;rfl
def Z18:WE :=
 (wTup (aCons (w2 rMulT (wVar 3) (wVar 0)) (aCons (w2 rMulT (wVar 3) (wVar 1)) (aCons (w2 rMulT (wVar 3) (wVar 2)) aNil))))
def Z1C:WE :=
 (wTup (aCons (w2 rMulT (wVar 3) (wVar 0)) (aCons (w2 rMulT (wVar 3) (wVar 1)) (aCons (w2 rMulT (wVar 3) (wVar 2)) aNil))))
def Z0H:WS :=
 (sApp 2 (wTup (aCons (wVar 4) (aCons (wCB rTupleT (aCons (wComp (iSeq (wVar 5)) (gT 3 (gsC (gN 0) (gsC (gN 1) (gsC (gN 2) gs0)))) tTrue Z18 3 [1]) aNil)) aNil))))
def Z0I:WS :=
 (sSeq (sSet 7 (wCB rTupleT (aCons (wComp (iSeq (w2 rCatLT (wVar 5) (wTup (aCons (wVar 6) aNil)))) (gT 3 (gsC (gN 0) (gsC (gN 1) (gsC (gN 2) gs0)))) tTrue Z1C 3 [1]) aNil)))
  (sApp 3 (wTup (aCons (wVar 4) (aCons (wSl (wVar 7) wo0 (wo (wC (.int 3)))) (aCons (w2 rIxTT (wVar 7) (wC (.int 3))) aNil))))))
def Z2c:WS :=
 (sSeq (sOwn 2 aNil)
  (sSeq (sOwn 3 aNil)
  (sSeq (sFor (iSeq (w2 rIxTT (wVar 0) (wC (.int 1)))) (gT 2 (gsC (gN 4) (gsC (gN 5) gs0))) Z0H)
  (sSeq (sFor (iSeq (w2 rIxTT (wVar 0) (wC (.int 2)))) (gT 3 (gsC (gN 4) (gsC (gN 5) (gsC (gN 6) gs0)))) Z0I)
  (sFrz 3 (sFrz 2 (sRet (wTup (aCons (w2 rIxTT (wVar 0) (wC (.int 0))) (aCons (wVar 2) (aCons (wVar 3) aNil)))))))))))
theorem aff_gr(m:Int)(t:Tr):trT (aff m O3 t)=tri (m * t.1) (m * t.2.1) (m * t.2.2):=by simp[aff]
theorem all3{P:Tr->Prop}{a b c:Tr}(h1:P a)(h2:P b)(h3:P c):∀x∈[a,b,c],P x:=by
 intro x hx
 simp only[List.mem_cons,List.not_mem_nil,or_false]at hx
 rcases hx with rfl|rfl|rfl<;>assumption
theorem all4{P:Tr->Prop}{a b c d:Tr}(h1:P a)(h2:P b)(h3:P c)(h4:P d):∀x∈[a,b,c,d],P x:=by
 intro x hx
 simp only[List.mem_cons,List.not_mem_nil,or_false]at hx
 rcases hx with rfl|rfl|rfl|rfl<;>assumption
theorem mul_ok{m:Int}(hm:Mk m)(xs:List Tr)(hx:∀x∈xs,NmT x)(Q:List T->Prop)(q:Q (xs.map fun t=>trT (aff m O3 t))):compT (gT 3 (gsC (gN 0) (gsC (gN 1) (gsC (gN 2) gs0)))) tTrue Z18 (xs.map trT) [] [Slot.no,Slot.no,Slot.no,.val (.int m)] Q:=by
 refine comp_all (P:=fun τ=>∃s0 s1 s2,τ=[s0,s1,s2,.val (.int m)]) (e:=trT) (f:=fun t=>trT (aff m O3 t)) xs [] _ _ ⟨_,_,_,rfl⟩ ?_ q
 rintro x hxx _ ⟨s0,s1,s2,rfl⟩ K k
 have lm:Lim 12 m:=Lim.of (by omega) (by omega)
 have mo:∀{i:Int},Nm i->MulOk m i:=fun {i} hi=>mulOk lm (nm_lim hi) (by decide)
 have n:=hx x hxx
 walk_at "tw"
 refine k [.val (.int x.1),.val (.int x.2.1),.val (.int x.2.2),.val (.int m)] ⟨_,_,_,rfl⟩ fun Q q=>?_
 rw[aff_gr]at q
 exact⟨mo n.1,mo n.2.1,mo n.2.2,by show 3<=1000;decide,q⟩
theorem gr_l0{s0 s6 s7:Slot}{m:Int}{ds:List T}{D:DT}(hm:Mk m):∀(ws:List Wl)(acc:List T)(s4 s5:Slot),acc.length + ws.length<=900->(∀x∈ws,WlOk x)->(∀s4 s5,D.nx [s0,.val (.int m),.own (acc++ws.map fun x=>walE (walA m O3 x)),.own ds,s4,s5,s6,s7]) →
  forT (gT 2 (gsC (gN 4) (gsC (gN 5) gs0))) Z0H (ws.map walE) D [s0,.val (.int m),.own acc,.own ds,s4,s5,s6,s7]
 | [],acc,s4,s5,_,_,h=>by
  have:=h s4 s5
  simp only[List.map_nil,List.append_nil,forT]at this ⊢
  exact this
 | x::ws,acc,s4,s5,hl,ho,h=>by
  have ih:=fun (s4 s5:Slot)=>gr_l0 (s0:=s0) (s6:=s6) (s7:=s7) (ds:=ds) (D:=D) hm ws (acc++[walE (walA m O3 x)]) s4 s5 (by simp at hl ⊢;omega) (fun z hz=>ho z (List.mem_cons_of_mem _ hz)) (by simpa using h)
  obtain⟨_,n1,n2,n3⟩:=ho x List.mem_cons_self
  simp only[List.map_cons,forT]
  generalize forT (gT 2 (gsC (gN 4) (gsC (gN 5) gs0))) Z0H (ws.map walE)=F at ih ⊢
  have hz:∀(s0 s2 s3 s4 s6 s7:Slot)(Q:T->Prop),Q (pT (affP m O3 x.2))->(wCB rTupleT (aCons (wComp (iSeq (wVar 5)) (gT 3 (gsC (gN 0) (gsC (gN 1) (gsC (gN 2) gs0)))) tTrue Z18 3 [1]) aNil)) [s0,.val (.int m),s2,s3,s4,.val (ptl x.2.1 x.2.2.1 x.2.2.2),s6,s7] Q:=fun _ _ _ _ _ _ Q q=>⟨by show 3<=1000;decide,mul_ok hm [x.2.1,x.2.2.1,x.2.2.2] (all3 n1 n2 n3) _ q⟩
  unfold Z0H
  generalize (wCB rTupleT (aCons (wComp (iSeq (wVar 5)) (gT 3 (gsC (gN 0) (gsC (gN 1) (gsC (gN 2) gs0)))) tTrue Z18 3 [1]) aNil))=Z at hz ⊢
  unfold walE
  walk_at "tw"
  exact hz _ _ _ _ _ _ _ ⟨by simp at hl;omega,ih _ _⟩
theorem gr_s1{s0:Slot}{m:Int}{ws acc:List T}{D:DT}{F:WS}(hm:Mk m)(x:Dl)(s4 s5 s6 s7:Slot)(hl:acc.length < 1000)(ok:DlOk x)(ih:∀s4 s5 s6 s7,F D [s0,.val (.int m),.own ws,.own (acc++[dilE (dilA m O3 x)]),s4,s5,s6,s7]) :
  (gT 3 (gsC (gN 4) (gsC (gN 5) (gsC (gN 6) gs0)))) (dilE x) [s0,.val (.int m),.own ws,.own acc,s4,s5,s6,s7] fun τ1=>Z0I {D with nx:=F D,ct:=F D,bk:=D.nx} τ1:=by
 obtain⟨⟨_,n1,n2,n3⟩,n4⟩:=ok
 have hz:∀(s0 s2 s3 s4 s7:Slot)(Q:T->Prop),Q (.tup [trT (aff m O3 x.1.2.1),trT (aff m O3 x.1.2.2.1),trT (aff m O3 x.1.2.2.2),trT (aff m O3 x.2)])->(wCB rTupleT (aCons (wComp (iSeq (w2 rCatLT (wVar 5) (wTup (aCons (wVar 6) aNil)))) (gT 3 (gsC (gN 0) (gsC (gN 1) (gsC (gN 2) gs0)))) tTrue Z1C 3 [1]) aNil)) [s0,.val (.int m),s2,s3,s4,.val (ptl x.1.2.1 x.1.2.2.1 x.1.2.2.2),.val (trT x.2),s7] Q:=fun _ _ _ _ _ Q q=>by
  refine⟨by show 1<=1000;decide,?_⟩
  have:=mul_ok hm [x.1.2.1,x.1.2.2.1,x.1.2.2.2,x.2] (all4 n1 n2 n3 n4) (fun rs=>Q (.tup rs)) q
  exact⟨by show 4<=1000;decide,⟨by show 4<=1000;decide,this⟩⟩
 unfold Z0I
 generalize hZ:(wCB rTupleT (aCons (wComp (iSeq (w2 rCatLT (wVar 5) (wTup (aCons (wVar 6) aNil)))) (gT 3 (gsC (gN 0) (gsC (gN 1) (gsC (gN 2) gs0)))) tTrue Z1C 3 [1]) aNil))=Z
 rw[hZ]at hz
 clear hZ
 refine⟨rfl,?_⟩
 refine hz _ _ _ _ _ _ ?_
 refine⟨by show ¬(HT.sIx 4 0 none=0/\HT.sIx 4 4 (some 3)=4);decide,?_⟩
 exact⟨by show 3<=1000;decide,hl,ih _ _ _ _⟩
theorem gr_l1{s0:Slot}{m:Int}{ws:List T}{D:DT}(hm:Mk m):∀(ds:List Dl)(acc:List T)(s4 s5 s6 s7:Slot),acc.length + ds.length<=900->(∀x∈ds,DlOk x)->(∀s4 s5 s6 s7,D.nx [s0,.val (.int m),.own ws,.own (acc++ds.map fun x=>dilE (dilA m O3 x)),s4,s5,s6,s7]) →
  forT (gT 3 (gsC (gN 4) (gsC (gN 5) (gsC (gN 6) gs0)))) Z0I (ds.map dilE) D [s0,.val (.int m),.own ws,.own acc,s4,s5,s6,s7]
 | [],acc,s4,s5,s6,s7,_,_,h=>by
  have:=h s4 s5 s6 s7
  simp only[List.map_nil,List.append_nil,forT]at this ⊢
  exact this
 | x::ds,acc,s4,s5,s6,s7,hl,ho,h=>by
  have ih:=fun (s4 s5 s6 s7:Slot)=>gr_l1 (s0:=s0) (ws:=ws) (D:=D) hm ds (acc++[dilE (dilA m O3 x)]) s4 s5 s6 s7 (by simp at hl ⊢;omega) (fun z hz=>ho z (List.mem_cons_of_mem _ hz)) (by simpa using h)
  simp only[List.map_cons,forT]
  exact gr_s1 hm x _ _ _ _ (by simp at hl;omega) (ho x List.mem_cons_self) ih
theorem Z3r:∀ts Q,Z0o ts Q->Z2c {nx:=fun _=>Q .non,rt:=Q} (startT 8 ts):=by
 rintro _ Q ⟨y,m,rfl,Y,hm,h⟩
 rw[ydT_aff]at h
 have a0:atI (ydL y) 0=some (.lst (y.suns.map sunE)):=atI_nat (j:=0) rfl
 have a1:atI (ydL y) 1=some (.lst (y.wals.map walE)):=atI_nat (j:=1) rfl
 have a2:atI (ydL y) 2=some (.lst (y.dils.map dilE)):=atI_nat (j:=2) rfl
 have lw:=Y.lw
 have ld:=Y.ld
 unfold Z2c
 obtain⟨B0,hB0⟩:∃W,W=Z0H:=⟨_,rfl⟩
 obtain⟨B1,hB1⟩:∃W,W=Z0I:=⟨_,rfl⟩
 rw[← hB0,← hB1]
 refine⟨Nat.zero_le _,Nat.zero_le _,?_⟩
 show (match atI (ydL y) 1 with|some t=>_|none=>False)
 rw[a1,hB0]
 refine gr_l0 hm y.wals [] _ _ (by simp;omega) Y.ow fun s4 s5=>?_
 rw[List.nil_append]
 show (match atI (ydL y) 2 with|some t=>_|none=>False)
 rw[a2,hB1]
 refine gr_l1 hm y.dils [] _ _ _ _ (by simp;omega) Y.od fun s4 s5 s6 s7=>?_
 rw[List.nil_append]
 show (match atI (ydL y) 0 with|some t=>_|none=>False)
 rw[a0]
 exact⟨by show 3<=1000;decide,h⟩
def pl9(p:Tr×Tr×Tr):List Int:=[p.1.1,p.1.2.1,p.1.2.2,p.2.1.1,p.2.1.2.1,p.2.1.2.2,p.2.2.1,p.2.2.2.1,p.2.2.2.2]
def dl12(d:Dl):List Int:=[d.1.2.1.1,d.1.2.1.2.1,d.1.2.1.2.2,d.1.2.2.1.1,d.1.2.2.1.2.1,d.1.2.2.1.2.2,d.1.2.2.2.1,d.1.2.2.2.2.1,d.1.2.2.2.2.2,d.2.1,d.2.2.1,d.2.2.2]
def nums(y:Yd):List Int:=[0]++(y.wals.flatMap fun w=>pl9 w.2)++y.dils.flatMap dl12
def Z0e:SpT:=fun ts Q=>∃y:Yd,ts=[ydT y]/\y.wals.length + y.dils.length<=45/\Q (.lst ((nums y).map T.int))
theorem Z3g:∀ts Q,Z0e ts Q->ts.length=1:=by rintro ts Q ⟨_,e,_⟩;subst e;rfl
def Z19:WS :=
 (sExtT 1 (w2 rCatLT (w2 rCatLT (w2 rIxTT (wVar 3) (wC (.int 0))) (w2 rIxTT (wVar 3) (wC (.int 1)))) (w2 rIxTT (wVar 3) (wC (.int 2)))))
def Z1a:WS :=
 (sExtT 1 (w2 rCatLT (w2 rCatLT (w2 rCatLT (w2 rIxTT (wVar 3) (wC (.int 0))) (w2 rIxTT (wVar 3) (wC (.int 1)))) (w2 rIxTT (wVar 3) (wC (.int 2)))) (wVar 4)))
def Z2d:WS :=
 (sSeq (sOwn 1 (aCons (wC (.int 0)) aNil))
  (sSeq (sFor (iSeq (w2 rIxTT (wVar 0) (wC (.int 1)))) (gT 2 (gsC (gN 2) (gsC (gN 3) gs0))) Z19)
  (sSeq (sFor (iSeq (w2 rIxTT (wVar 0) (wC (.int 2)))) (gT 3 (gsC (gN 2) (gsC (gN 3) (gsC (gN 4) gs0)))) Z1a)
  (sFrz 1 (sRet (wVar 1))))))
theorem nu_s0{s0 s4:Slot}{acc:List Int}{D:DT}{F:WS}(x:Wl)(s2 s3:Slot)(hl:acc.length + 9<=1000)(ih:∀s2 s3,F D [s0,.own ((acc++pl9 x.2).map T.int),s2,s3,s4]) :
  (gT 2 (gsC (gN 2) (gsC (gN 3) gs0))) (walE x) [s0,.own (acc.map T.int),s2,s3,s4] fun τ1=>Z19 {D with nx:=F D,ct:=F D,bk:=D.nx} τ1:=by
 rw[List.map_append]at ih
 exact⟨rfl,by show 6<=1000;decide,by show 9<=1000;decide,by show (acc.map T.int).length + 9<=1000;rw[List.length_map];exact hl,ih _ _⟩
theorem nu_s1{s0:Slot}{acc:List Int}{D:DT}{F:WS}(x:Dl)(s2 s3 s4:Slot)(hl:acc.length + 12<=1000)(ih:∀s2 s3 s4,F D [s0,.own ((acc++dl12 x).map T.int),s2,s3,s4]) :
  (gT 3 (gsC (gN 2) (gsC (gN 3) (gsC (gN 4) gs0)))) (dilE x) [s0,.own (acc.map T.int),s2,s3,s4] fun τ1=>Z1a {D with nx:=F D,ct:=F D,bk:=D.nx} τ1:=by
 rw[List.map_append]at ih
 exact⟨rfl,by show 6<=1000;decide,by show 9<=1000;decide,by show 12<=1000;decide,by show (acc.map T.int).length + 12<=1000;rw[List.length_map];exact hl,ih _ _ _⟩
theorem nu_l0{s0 s4:Slot}{D:DT}:∀(ws:List Wl)(acc:List Int)(s2 s3:Slot),acc.length + 9 * ws.length<=900->(∀s2 s3,D.nx [s0,.own ((acc++ws.flatMap fun w=>pl9 w.2).map T.int),s2,s3,s4]) →
  forT (gT 2 (gsC (gN 2) (gsC (gN 3) gs0))) Z19 (ws.map walE) D [s0,.own (acc.map T.int),s2,s3,s4]
 | [],acc,s2,s3,_,h=>by
  have:=h s2 s3
  simp only[List.map_nil,List.flatMap_nil,List.append_nil,forT]at this ⊢
  exact this
 | x::ws,acc,s2,s3,hl,h=>by
  simp only[List.length_cons]at hl
  have l9:(pl9 x.2).length=9:=rfl
  have ih:=fun (s2 s3:Slot)=>nu_l0 (s0:=s0) (s4:=s4) (D:=D) ws (acc++pl9 x.2) s2 s3 (by rw[List.length_append,l9];omega) (by simpa only [List.flatMap_cons,List.append_assoc] using h)
  simp only[List.map_cons,forT]
  exact nu_s0 x _ _ (by omega) ih
theorem nu_l1{s0:Slot}{D:DT}:∀(ds:List Dl)(acc:List Int)(s2 s3 s4:Slot),acc.length + 12 * ds.length<=900->(∀s2 s3 s4,D.nx [s0,.own ((acc++ds.flatMap dl12).map T.int),s2,s3,s4]) →
  forT (gT 3 (gsC (gN 2) (gsC (gN 3) (gsC (gN 4) gs0)))) Z1a (ds.map dilE) D [s0,.own (acc.map T.int),s2,s3,s4]
 | [],acc,s2,s3,s4,_,h=>by
  have:=h s2 s3 s4
  simp only[List.map_nil,List.flatMap_nil,List.append_nil,forT]at this ⊢
  exact this
 | x::ds,acc,s2,s3,s4,hl,h=>by
  simp only[List.length_cons]at hl
  have l9:(dl12 x).length=12:=rfl
  have ih:=fun (s2 s3 s4:Slot)=>nu_l1 (s0:=s0) (D:=D) ds (acc++dl12 x) s2 s3 s4 (by rw[List.length_append,l9];omega) (by simpa only [List.flatMap_cons,List.append_assoc] using h)
  simp only[List.map_cons,forT]
  exact nu_s1 x _ _ _ (by omega) ih
theorem fm_len{α:Type}{f:α->List Int}{n:Nat}(hf:∀x,(f x).length=n):∀xs:List α,(xs.flatMap f).length=n * xs.length
 | []=>by simp
 | x::xs=>by rw[List.flatMap_cons,List.length_append,hf,fm_len hf xs,List.length_cons,Nat.mul_add,Nat.mul_one,Nat.add_comm]
theorem Z3s:∀ts Q,Z0e ts Q->Z2d {nx:=fun _=>Q .non,rt:=Q} (startT 5 ts):=by
 rintro _ Q ⟨y,rfl,hl,h⟩
 have a1:atI (ydL y) 1=some (.lst (y.wals.map walE)):=atI_nat (j:=1) rfl
 have a2:atI (ydL y) 2=some (.lst (y.dils.map dilE)):=atI_nat (j:=2) rfl
 have f1:=fm_len (n:=9) (f:=fun w:Wl=>pl9 w.2) (fun _=>rfl) y.wals
 unfold nums at h
 unfold Z2d
 obtain⟨B0,hB0⟩:∃W,W=Z19:=⟨_,rfl⟩
 obtain⟨B1,hB1⟩:∃W,W=Z1a:=⟨_,rfl⟩
 rw[← hB0,← hB1]
 refine⟨by show 1<=1000;decide,?_⟩
 show (match atI (ydL y) 1 with|some t=>_|none=>False)
 rw[a1,hB0]
 refine nu_l0 y.wals [0] _ _ (by show 1 + _<=_;omega) fun s2 s3=>?_
 show (match atI (ydL y) 2 with|some t=>_|none=>False)
 rw[a2,hB1]
 refine nu_l1 y.dils _ _ _ _ (by rw[List.length_append,f1];show 1 + _ + _<=_;omega) fun s2 s3 s4=>?_
 exact h
def Bd(l:List T):Prop:=∃a:List Int,l=a.map T.int/\a≠[]
theorem Bd.snoc{l:List T}(h:Bd l)(i:Int):Bd (l++[.int i]):=by
 obtain⟨a,rfl,_⟩:=h
 exact⟨a++[i],by simp,by simp⟩
def El(t:T):Prop:=(∃x:Wl,t=walE x)∨∃x:Dl,t=dilE x
def Z1H:SpT:=fun ts Q=>∃y:Yd,ts=[ydT y]/\y.wals.length + y.dils.length<=45/\∀a b c:List T,Bd a->Bd b->Bd c->Q (.lst [.lst a,.lst b,.lst c])
theorem Z3L:∀ts Q,Z1H ts Q->ts.length=1:=by rintro ts Q ⟨_,e,_⟩;subst e;rfl
def Z2N:WS :=
 (sEdg 1 2 3 (iSeq (w2 rCatLT (w2 rIxTT (wVar 0) (wC (.int 1))) (w2 rIxTT (wVar 0) (wC (.int 2))))) (iRange1 (aCons (wC (.int 3)) aNil)) (w2 rIxTT (w2 rIxTT (w2 rIxTT (wVar 2) (wC (.int 1))) (wC (.int 0))) (wVar 3)) (tCmpT cGtT (wCB rLenT (aCons (wVar 2) aNil)) (wC (.int 2))) (w2 rIxTT (w2 rIxTT (wVar 2) (wC (.int 2))) (wVar 3)))
abbrev e1:WE:=(w2 rIxTT (w2 rIxTT (w2 rIxTT (wVar 2) (wC (.int 1))) (wC (.int 0))) (wVar 3))
abbrev eu:WT:=(tCmpT cGtT (wCB rLenT (aCons (wVar 2) aNil)) (wC (.int 2)))
abbrev e2:WE:=(w2 rIxTT (w2 rIxTT (wVar 2) (wC (.int 2))) (wVar 3))
theorem ed_s{s0 s1 s3:Slot}{n:Nat}{a b c:List T}{K:List (List T)->List Slot->Prop}{t:T}(e:El t)(hn:n + 2 < 900)(la:a.length<=n)(lb:b.length<=n)(lc:c.length<=n)(ha:Bd a)(hb:Bd b)(hc:Bd c)
  (k:∀a b c:List T,a.length<=n + 2->b.length<=n + 2->c.length<=n + 2->Bd a->Bd b->Bd c->∀s3,K [a,b,c] [s0,s1,.val t,s3]):edK 3 e1 eu e2 [.int 0,.int 1,.int 2] [a,b,c] [s0,s1,.val t,s3] K:=by
 have g2:¬ decide ((2:Int) < ((2:Nat):Int))=true:=by decide
 have g3:¬ decide ((2:Int) < ((3:Nat):Int))=false:=by decide
 have l1:∀(l:List T)(x:T),(l++[x]).length=l.length + 1:=fun l x=>by simp
 rcases e with ⟨x,rfl⟩|⟨x,rfl⟩
 ·refine⟨0,a,rfl,rfl,by omega,(fun z=>(g2 z).elim),fun _=>⟨1,b,rfl,rfl,by omega,(fun z=>(g2 z).elim),fun _=>⟨2,c,rfl,rfl,by omega,(fun z=>(g2 z).elim),fun _=>?_⟩⟩⟩
  exact k _ _ _ (by rw[l1];omega) (by rw[l1];omega) (by rw[l1];omega) (ha.snoc _) (hb.snoc _) (hc.snoc _) _
 ·refine⟨0,a,rfl,rfl,by omega,fun _=>⟨1,b,rfl,rfl,by omega,fun _=>⟨2,c,rfl,rfl,by omega,fun _=>?_,fun z=>(g3 z).elim⟩,fun z=>(g3 z).elim⟩,fun z=>(g3 z).elim⟩
  exact k _ _ _ (by rw[l1,l1];omega) (by rw[l1,l1];omega) (by rw[l1,l1];omega) ((ha.snoc _).snoc _) ((hb.snoc _).snoc _) ((hc.snoc _).snoc _) _
theorem ed_l{s0 s1:Slot}{Q:T->Prop}(q:∀a b c:List T,Bd a->Bd b->Bd c->Q (.lst [.lst a,.lst b,.lst c])):∀(ts:List T)(n:Nat)(a b c:List T)(s2 s3:Slot),n + 2 * ts.length<=800->(∀t∈ts,El t)->a.length<=n->b.length<=n->c.length<=n->Bd a->Bd b->Bd c →
  edT 2 3 (iRange1 (aCons (wC (.int 3)) aNil)) e1 eu e2 ts [a,b,c] Q [s0,s1,s2,s3]
 | [],n,a,b,c,s2,s3,_,_,_,_,_,ha,hb,hc=>q a b c ha hb hc
 | t::ts,n,a,b,c,s2,s3,hn,he,la,lb,lc,ha,hb,hc=>by
  simp only[List.length_cons]at hn
  have ih:=fun (a b c:List T) (s2 s3:Slot) la lb lc ha hb hc=>ed_l (s0:=s0) (s1:=s1) q ts (n + 2) a b c s2 s3 (by omega) (fun t ht=>he t (List.mem_cons_of_mem _ ht)) la lb lc ha hb hc
  have st:=ed_s (s0:=s0) (s1:=s1) (s3:=s3) (K:=fun ls' τ'=>edT 2 3 (iRange1 (aCons (wC (.int 3)) aNil)) e1 eu e2 ts ls' Q τ') (he t List.mem_cons_self) (by omega) la lb lc ha hb hc fun a b c la lb lc ha hb hc s3=>ih a b c _ s3 la lb lc ha hb hc
  exact⟨⟨by decide,by decide⟩,st⟩
theorem Z43:∀ts Q,Z1H ts Q->Z2N {nx:=fun _=>False,rt:=Q} (startT 4 ts):=by
 rintro _ Q ⟨y,rfl,hl,h⟩
 have a1:atI (ydL y) 1=some (.lst (y.wals.map walE)):=atI_nat (j:=1) rfl
 have a2:atI (ydL y) 2=some (.lst (y.dils.map dilE)):=atI_nat (j:=2) rfl
 have bd0:Bd [.int 0]:=⟨[0],rfl,by simp⟩
 have le:(y.wals.map walE++y.dils.map dilE).length=y.wals.length + y.dils.length:=by simp
 unfold Z2N
 refine⟨⟨by show 1 < 4;decide,by show 2 < 4;decide,by show 3 < 4;decide,?_⟩,?_⟩
 ·intro j
  match j with
  | 0=>rfl
  | 1=>rfl
  | 2=>rfl
  | 3=>rfl
  | n + 4=>rfl
 show (match atI (ydL y) 1 with|some t=>_|none=>False)
 rw[a1]
 show (match atI (ydL y) 2 with|some t=>_|none=>False)
 rw[a2]
 refine⟨by rw[List.length_map,List.length_map];omega,?_⟩
 refine ed_l h _ 1 _ _ _ _ _ (by rw[le];omega) (fun t ht=>?_) (by decide) (by decide) (by decide) bd0 bd0 bd0
 rcases List.mem_append.mp ht with m|m
 ·obtain⟨x,_,rfl⟩:=List.mem_map.mp m
  exact .inl ⟨x,rfl⟩
 ·obtain⟨x,_,rfl⟩:=List.mem_map.mp m
  exact .inr ⟨x,rfl⟩
theorem intsOf_map:∀ns:List Int,intsOf (ns.map T.int)=some ns
 | []=>rfl
 | n::ns=>by simp only[List.map_cons,intsOf,intsOf_map ns,Option.map]
def Z0Z:SpT:=fun ts Q=>∃(y:Yd) (v:Int),ts=[ydT y,.int v]/\y.wals.length + y.dils.length<=45/\∀c:Tr,Q (trT c)
theorem Z3M:∀ts Q,Z0Z ts Q->ts.length=2:=by rintro ts Q ⟨_,_,e,_⟩;subst e;rfl
def Z1z:WS :=
 (sSeq (sSet 5 (wCall Z00 (aCons (wVar 1) (aCons (wVar 3) (aCons (wC (.int 5)) aNil)))))
  (sSeq (sSet 6 (w2 rDivT (wCall Z00 (aCons (wVar 1) (aCons (w2 rAddT (wC (.int 3)) (wVar 3)) (aCons (wC (.int 3)) aNil)))) (wC (.int 2))))
  (sIf (tCmpT cEqT (wVar 5) (wC (.int 3))) (sApp 2 (w2 rAddT (w2 rSubT (w2 rPowT (wC (.int 10)) (wC (.int 9))) (wCB rMaxLT (aCons (wVar 4) aNil))) (wVar 6))) (sIf (tCmpT cEqT (wVar 5) (wC (.int 4))) (sApp 2 (w2 rSubT (w2 rSubT (w2 rSubT (wC (.int 0)) (w2 rPowT (wC (.int 10)) (wC (.int 9)))) (wCB rMinLT (aCons (wVar 4) aNil))) (wVar 6))) (sApp 2 (w2 rSubT (wCall Z00 (aCons (wVar 1) (aCons (w2 rAddT (wC (.int 6)) (wVar 3)) (aCons (wC (.int 41)) aNil)))) (wC (.int 20))))))))
def Z2O:WS :=
 (sSeq (sOwn 2 aNil)
  (sSeq (sFor (iEnum (aCons (wCall Z1H (aCons (wVar 0) aNil)) aNil)) (gT 2 (gsC (gN 3) (gsC (gN 4) gs0))) Z1z)
  (sFrz 2 (sRet (wCB rTupleT (aCons (wVar 2) aNil))))))
theorem dr_s{s0:Slot}{v:Int}{acc:List T}{D:DT}{F:WS}(k:Int)(k0:0<=k)(k2:k<=2){l:List T}(hb:Bd l)(s3 s4 s5 s6:Slot)(hl:acc.length < 1000)(ih:∀(i:Int) s3 s4 s5 s6,F D [s0,.val (.int v),.own (acc++[.int i]),s3,s4,s5,s6]) :
  (gT 2 (gsC (gN 3) (gsC (gN 4) gs0))) (.tup [.int k,.lst l]) [s0,.val (.int v),.own acc,s3,s4,s5,s6] fun τ1=>Z1z {D with nx:=F D,ct:=F D,bk:=D.nx} τ1:=by
 have hd:∀(k many:Int)(Q:T->Prop),0<=k->k<=1000->1<=many->many<=10 ^ 12->(∀r:Int,0<=r->r < many->Q (.int r))->Z00 [.int v,.int k,.int many] Q:=fun k many Q a b c d q=>⟨v,k,many,rfl,a,b,c,d,q⟩
 have dv:DivOk (2:Int):=divOk (by decide) (Lim.of (n:=1) (by decide) (by decide))
 have cp:CPow 10 9:=⟨by decide,by decide,by decide⟩
 obtain⟨a,rfl,ne⟩:=hb
 have mx:∀Q:T->Prop,(∀m:Int,Q (.int m))->rMaxLT [.lst (a.map T.int)] Q:=fun Q q=>by
  unfold rMaxLT
  simp only[intsOf_map]
  exact⟨ne,fun m _ _=>q m⟩
 have mn:∀Q:T->Prop,(∀m:Int,Q (.int m))->rMinLT [.lst (a.map T.int)] Q:=fun Q q=>by
  unfold rMinLT
  simp only[intsOf_map]
  exact⟨ne,fun m _ _=>q m⟩
 unfold Z1z
 generalize hM:rMaxLT=M at mx ⊢
 generalize hN:rMinLT=N at mn ⊢
 generalize Z00=S at hd ⊢
 clear hM hN
 refine⟨rfl,?_⟩
 refine hd k 5 _ k0 (by omega) (by decide) (by decide) fun r r0 r1=>?_
 refine hd (3 + k) 3 _ (by omega) (by omega) (by decide) (by decide) fun r' r0' r1'=>⟨dv,?_⟩
 refine⟨fun _=>⟨cp,mx _ fun m=>⟨hl,ih _ _ _ _ _⟩⟩,fun _=>⟨fun _=>⟨cp,mn _ fun m=>⟨hl,ih _ _ _ _ _⟩⟩,fun _=>?_⟩⟩
 exact hd (6 + k) 41 _ (by omega) (by omega) (by decide) (by decide) fun r'' _ _=>⟨hl,ih _ _ _ _ _⟩
theorem Z44:∀ts Q,Z0Z ts Q->Z2O {nx:=fun _=>Q .non,rt:=Q} (startT 7 ts):=by
 rintro _ Q ⟨y,v,rfl,hl,h⟩
 unfold Z2O
 obtain⟨B0,hB0⟩:∃W,W=Z1z:=⟨_,rfl⟩
 rw[← hB0]
 refine⟨Nat.zero_le _,?_⟩
 refine⟨y,rfl,hl,fun a b c ha hb hc=>?_⟩
 rw[hB0]
 refine dr_s 0 (by decide) (by decide) ha _ _ _ _ (by show 0 < 1000;decide) fun i _ _ _ _=>?_
 refine dr_s 1 (by decide) (by decide) hb _ _ _ _ (by show 1 < 1000;decide) fun j _ _ _ _=>?_
 refine dr_s 2 (by decide) (by decide) hc _ _ _ _ (by show 2 < 1000;decide) fun k _ _ _ _=>?_
 exact h (i,j,k)
def Dp:Nat->T->Prop
 | 0,t=>(∃i,t=.int i)∨∃s,t=.str s/\PyData.strOk s=true
 | n + 1,t=>Dp n t∨(∃ts,t=.tup ts/\ts.length<=1000/\∀x∈ts,Dp n x)∨∃ts,t=.lst ts/\ts.length<=1000/\∀x∈ts,Dp n x
def Z0c:Nat->SpT
 | 0=>fun _ _=>False
 | n + 1=>fun ts Q=>∃t,ts=[t,t]/\Dp n t/\Q (.bl true)
abbrev Z1I:SpT:=Z0c 8
theorem no_L_alike:∀ts Q,¬ Z0c 0 ts Q:=fun ts Q h=>h
theorem len0_L_alike:∀ts Q,Z0c 0 ts Q->ts.length=2:=fun ts Q h=>h.elim
theorem Z3t:∀n ts Q,Z0c n ts Q->ts.length=2
 | 0,_,_,h=>h.elim
 | n + 1,ts,Q,⟨_,e,_⟩=>by subst e;rfl
def Z2P(S:SpT):WS :=
 (sSeq (sIf (tVal (wIsi .int (wVar 1))) (sRet (wAndV (wIsi .int (wVar 0)) (wAndV (wNotV (wIsi .bool (wVar 0))) (wCmp cEqT (wVar 0) (wVar 1))))) sNext)
  (sSeq (sIf (tVal (wIsi .str (wVar 1))) (sRet (wAndV (wIsi .str (wVar 0)) (wCmp cEqT (wVar 0) (wVar 1)))) sNext)
  (sSeq (sIf (tOrT (tCmpT cNeT (wIsi .list (wVar 1)) (wIsi .list (wVar 0))) (tCmpT cNeT (wIsi .tuple (wVar 1)) (wIsi .tuple (wVar 0)))) (sRet (wC (.bl false))) sNext)
  (sRet (wAndV (wCmp cEqT (wCB rLenT (aCons (wVar 0) aNil)) (wCB rLenT (aCons (wVar 1) aNil))) (wCB rAllT (aCons (wComp (iZip (aCons (wVar 0) (aCons (wVar 1) aNil))) (gT 2 (gsC (gN 0) (gsC (gN 1) gs0))) tTrue (wCall S (aCons (wVar 0) (aCons (wVar 1) aNil))) 2 []) aNil)))))))
theorem boolsOf_true:∀n:Nat,boolsOf (List.replicate n (T.bl true))=some (List.replicate n true)
 | 0=>rfl
 | n + 1=>by simp only[List.replicate,boolsOf,boolsOf_true n,Option.map]
theorem all_true(n:Nat):(List.replicate n true).all id=true:=by
 induction n with
 | zero=>rfl
 | succ n ih=>simp only[List.replicate,List.all_cons,ih,id,Bool.and_true]
theorem alike_comp{S:SpT}{Q:List T->Prop}:∀(L:List T)(acc:List T)(s s':Slot),(∀x∈L,∀Q:T->Prop,Q (.bl true)->S [x,x] Q)->Q (acc++List.replicate L.length (T.bl true)) →
  compT (gT 2 (gsC (gN 0) (gsC (gN 1) gs0))) tTrue (wCall S (aCons (wVar 0) (aCons (wVar 1) aNil))) (zipT L L) acc [s,s'] Q
 | [],acc,s,s',_,h=>by
  simp only[List.length_nil,List.replicate,List.append_nil]at h
  exact h
 | x::r,acc,s,s',hs,h=>by
  have ih:=fun acc s s'=>alike_comp (S:=S) (Q:=Q) r acc s s' fun y hy=>hs y (List.mem_cons_of_mem _ hy)
  have hx:=hs x List.mem_cons_self
  simp only[zipT,compT]
  generalize compT (gT 2 (gsC (gN 0) (gsC (gN 1) gs0))) tTrue (wCall S (aCons (wVar 0) (aCons (wVar 1) aNil))) (zipT r r)=F at ih ⊢
  walk_at "go"
  refine hx _ ?_
  refine ih _ _ _ ?_
  simpa [List.replicate] using h
theorem zip_len:∀L:List T,(zipT L L).length=L.length
 | []=>rfl
 | x::r=>by simp only[zipT,List.length_cons,zip_len r]
theorem sn_of{n:Nat}{t:T}(h:Dp n t){Q:T->Prop}(q:Q (.bl true)):Z0c (n + 1) [t,t] Q:=⟨t,rfl,h,q⟩
theorem pn_bl(b:Bool):Pn 0 (.bl b):=⟨by simp[plain,pd,PyData.canLay0],by simp[dep,pd,PyData.depth]⟩
theorem Z45:∀n ts Q,Z0c (n + 1) ts Q->Z2P (Z0c n) {nx:=fun _=>Q .non,rt:=Q} (startT 2 ts):=by
 rintro n _ Q ⟨t,rfl,d,q⟩
 have key:(∃i,t=.int i)∨(∃s,t=.str s/\PyData.strOk s=true)∨((∃ts,t=.tup ts/\ts.length<=1000/\∀x∈ts,∀Q:T->Prop,Q (.bl true)->Z0c n [x,x] Q)∨∃ts,t=.lst ts/\ts.length<=1000/\∀x∈ts,∀Q:T->Prop,Q (.bl true)->Z0c n [x,x] Q):=by
  have up:∀{n:Nat}{x:T}{Q:T->Prop},Z0c n [x,x] Q->Z0c (n + 1) [x,x] Q:=fun {n x Q} h=>by
   cases n with
   | zero=>exact h.elim
   | succ n =>
    obtain⟨t,e,d,q⟩:=h
    exact⟨t,e,.inl d,q⟩
  induction n with
  | zero =>
   rcases d with d|d
   ·exact .inl d
   ·exact .inr (.inl d)
  | succ n ih =>
   rcases d with d|⟨ts,e,l,d⟩|⟨ts,e,l,d⟩
   ·rcases ih d with h|h|⟨ts,e,l,h⟩|⟨ts,e,l,h⟩
    ·exact .inl h
    ·exact .inr (.inl h)
    ·exact .inr (.inr (.inl ⟨ts,e,l,fun x hx Q q=>up (h x hx Q q)⟩))
    ·exact .inr (.inr (.inr ⟨ts,e,l,fun x hx Q q=>up (h x hx Q q)⟩))
   ·exact .inr (.inr (.inl ⟨ts,e,l,fun x hx Q q=>sn_of (d x hx) q⟩))
   ·exact .inr (.inr (.inr ⟨ts,e,l,fun x hx Q q=>sn_of (d x hx) q⟩))
 clear d
 unfold Z2P
 generalize Z0c n=S at key ⊢
 rcases key with ⟨i,rfl⟩|⟨s,rfl,ok⟩|⟨ts,rfl,l,h⟩|⟨ts,rfl,l,h⟩
 ·walk_at "go"
  rw[decide_eq_true rfl]
  exact q
 ·have ps:Pn 0 (.str s):=Pn.str ok
  walk_at "go"
  refine⟨ps.ok ps (by decide),?_⟩
  rw[ps.self]
  exact q
 ·have lz:(zipT ts ts).length<=1000:=by rw[zip_len];exact l
  walk_at "go"
  refine⟨(pn_bl _).ok (pn_bl _) (by decide),?_⟩
  rw[(pn_bl (isK Kd.list (T.tup ts))).self]
  walk_at "go"
  refine⟨(pn_bl _).ok (pn_bl _) (by decide),?_⟩
  rw[(pn_bl (isK Kd.tuple (T.tup ts))).self]
  walk_at "go"
  rw[show decide ((ts.length:Int)=(ts.length:Int))=true from decide_eq_true rfl]
  walk_at "go"
  refine alike_comp ts [] _ _ h ?_
  rw[List.nil_append]
  walk_at "go"
  rw[boolsOf_true]
  dsimp only
  rw[all_true]
  exact q
 ·have lz:(zipT ts ts).length<=1000:=by rw[zip_len];exact l
  walk_at "go"
  refine⟨(pn_bl _).ok (pn_bl _) (by decide),?_⟩
  rw[(pn_bl (isK Kd.list (T.lst ts))).self]
  walk_at "go"
  refine⟨(pn_bl _).ok (pn_bl _) (by decide),?_⟩
  rw[(pn_bl (isK Kd.tuple (T.lst ts))).self]
  walk_at "go"
  rw[show decide ((ts.length:Int)=(ts.length:Int))=true from decide_eq_true rfl]
  walk_at "go"
  refine alike_comp ts [] _ _ h ?_
  rw[List.nil_append]
  walk_at "go"
  rw[boolsOf_true]
  dsimp only
  rw[all_true]
  exact q
theorem Dp.up{n:Nat}{t:T}(h:Dp n t):Dp (n + 1) t:=.inl h
theorem Dp.int(i:Int):Dp 0 (.int i):=.inl ⟨i,rfl⟩
theorem Dp.tup{n:Nat}{ts:List T}(l:ts.length<=1000)(h:∀x∈ts,Dp n x):Dp (n + 1) (.tup ts):=.inr (.inl ⟨ts,rfl,l,h⟩)
theorem Dp.lst{n:Nat}{ts:List T}(l:ts.length<=1000)(h:∀x∈ts,Dp n x):Dp (n + 1) (.lst ts):=.inr (.inr ⟨ts,rfl,l,h⟩)
theorem Dp.tr(t:Tr):Dp 1 (trT t):=.tup (by simp) fun x hx=>by
 simp only[List.mem_cons,List.not_mem_nil,or_false]at hx
 rcases hx with rfl|rfl|rfl<;>exact .int _
theorem Dp.pl(x y z:Tr):Dp 2 (ptl x y z):=.tup (by simp) fun x hx=>by
 simp only[List.mem_cons,List.not_mem_nil,or_false]at hx
 rcases hx with rfl|rfl|rfl<;>exact .tr _
theorem Dp.str{s:Str}(h:PyData.strOk s=true):Dp 0 (.str s):=.inr ⟨s,rfl,h⟩
theorem Dp.yd{y:Yd}(h:YdOk y):Dp 7 (ydT y):=by
 refine Dp.up (Dp.up (Dp.tup (by simp[ydL]) fun x hx=>?_))
 simp only[ydL,List.mem_cons,List.not_mem_nil,or_false]at hx
 rcases hx with rfl|rfl|rfl
 ·refine .lst (by rw[List.length_map];have:=h.ls;omega) fun x hx=>?_
  obtain⟨a,ha,rfl⟩:=List.mem_map.mp hx
  refine .tup (by simp) fun x hx=>?_
  simp only[List.mem_cons,List.not_mem_nil,or_false]at hx
  rcases hx with rfl|rfl
  ·exact(Dp.int _).up.up
  ·exact(Dp.tr _).up
 ·refine .lst (by rw[List.length_map];have:=h.lw;omega) fun x hx=>?_
  obtain⟨a,ha,rfl⟩:=List.mem_map.mp hx
  refine .tup (by simp) fun x hx=>?_
  simp only[List.mem_cons,List.not_mem_nil,or_false]at hx
  rcases hx with rfl|rfl
  ·exact(Dp.str (h.ow a ha).1.ok).up.up
  ·exact Dp.pl _ _ _
 ·refine .lst (by rw[List.length_map];have:=h.ld;omega) fun x hx=>?_
  obtain⟨a,ha,rfl⟩:=List.mem_map.mp hx
  refine .tup (by simp) fun x hx=>?_
  simp only[List.mem_cons,List.not_mem_nil,or_false]at hx
  rcases hx with rfl|rfl|rfl
  ·exact(Dp.str (h.od a ha).1.1.ok).up.up
  ·exact Dp.pl _ _ _
  ·exact(Dp.tr _).up
theorem plB_all(p:Tr×Tr×Tr):plB p=(pl9 p).all nB:=by
 simp only[plB,nmB3,pl9,List.all_cons,List.all_nil,Bool.and_true,Bool.and_assoc]
theorem dilB_all(d:Dl):dilB d=(dl12 d).all nB:=by
 simp only[dilB,plB,nmB3,dl12,List.all_cons,List.all_nil,Bool.and_true,Bool.and_assoc]
theorem ydB_nums(y:Yd):ydB y=(nums y).all nB:=by
 have h0:[(0:Int)].all nB=true:=by decide
 have hw:walB=fun w:Wl=>(pl9 w.2).all nB:=funext fun w=>plB_all w.2
 have hd:dilB=fun d:Dl=>(dl12 d).all nB:=funext dilB_all
 unfold ydB nums
 rw[List.all_append,List.all_append,h0,Bool.true_and,List.all_flatMap,List.all_flatMap,hw,hd]
def Z0J:SpT:=fun ts Q=>∃(y:Yd) (f:T),ts=[f,ydT y]/\y.wals.length + y.dils.length<=45/\(ydB y=true->f=ydT y/\YdOk y)/\(ydB y=false->f=.str zN)/\Q (.bl true)
theorem Z46:∀ts Q,Z0J ts Q->ts.length=2:=by rintro ts Q ⟨_,_,e,_⟩;subst e;rfl
def Z3h:WS :=
 (sSeq (sSet 2 (wCall Z0e (aCons (wVar 1) aNil)))
  (sSeq (sIf (tOrT (tCmpT cGtT (wCB rMaxLT (aCons (wVar 2) aNil)) (w2 rPowT (wC (.int 10)) (wC (.int 9)))) (tCmpT cLtT (wCB rMinLT (aCons (wVar 2) aNil)) (w2 rSubT (wC (.int 0)) (w2 rPowT (wC (.int 10)) (wC (.int 9)))))) (sRet (wCmp cEqT (wVar 0) (wC (.str (Str.ofString "none"))))) sNext)
  (sRet (wCall Z1I (aCons (wVar 0) (aCons (wVar 1) aNil))))))
theorem Z4l:∀ts Q,Z0J ts Q->Z3h {nx:=fun _=>Q .non,rt:=Q} (startT 3 ts):=by
 rintro _ Q ⟨y,f,rfl,hl,h1,h2,q⟩
 have hn:∀Q:T->Prop,Q (.lst ((nums y).map T.int))->Z0e [ydT y] Q:=fun Q q=>⟨y,rfl,hl,q⟩
 have ha:f=ydT y->YdOk y->∀Q:T->Prop,Q (.bl true)->Z1I [f,ydT y] Q:=fun e Y Q q=>by subst e;exact sn_of (n:=7) (Dp.yd Y) q
 have cp:CPow 10 9:=⟨by decide,by decide,by decide⟩
 have ne:nums y≠[]:=by unfold nums;simp
 have mx:∀Q:T->Prop,(∀m∈nums y,(∀n∈nums y,n<=m)->Q (.int m))->rMaxLT [.lst ((nums y).map T.int)] Q:=fun Q q=>by
  unfold rMaxLT
  simp only[intsOf_map]
  exact⟨ne,q⟩
 have mn:∀Q:T->Prop,(∀m∈nums y,(∀n∈nums y,m<=n)->Q (.int m))->rMinLT [.lst ((nums y).map T.int)] Q:=fun Q q=>by
  unfold rMinLT
  simp only[intsOf_map]
  exact⟨ne,q⟩
 have eqn:∀Q:Bool->Prop,Q true->cEqT (.str zN) (.str zN) Q:=fun Q q=>by
  have ps:Pn 0 (.str zN):=Pn.str (by decide +kernel)
  refine⟨ps.ok ps (by decide),?_⟩
  rw[ps.self]
  exact q
 rw[ydB_nums]at h1 h2
 unfold Z3h
 generalize (nums y).map T.int=ns at hn mx mn
 generalize hC:cEqT=C at eqn ⊢
 generalize hM:rMaxLT=M at mx ⊢
 generalize hN:rMinLT=N at mn ⊢
 generalize Z0e=SN at hn ⊢
 generalize Z1I=SA at ha ⊢
 clear hM hN hC
 have n9:∀{i:Int},nB i=true -> -1000000000<=i/\i<=1000000000:=fun {i} h=>by
  have:i.natAbs<=1000000000:=nB_iff.mp h
  omega
 refine hn _ (mx _ fun m hm hM=>⟨cp,?_⟩)
 cases hb:(nums y).all nB
 ·obtain rfl:=h2 hb
  have nope:∀{P:Prop},¬ ((1000000000:Int) < m)->∀m'∈nums y,(∀n∈nums y,m'<=n)->¬ (m' < -1000000000)->P:=fun {P} a m' hm' hN' b=>by
   exfalso
   have:(nums y).all nB=true:=List.all_eq_true.mpr fun i hi=>nB_iff.mpr (by show i.natAbs<=1000000000;have:=hM i hi;have:=hN' i hi;omega)
   rw[hb]at this
   cases this
  refine⟨fun _=>⟨fun _=>eqn _ q,fun z=>by cases z⟩,fun z1=>mn _ fun m' hm' hN'=>⟨cp,fun _=>eqn _ q,fun z2=>?_⟩⟩
  exact nope (of_decide_eq_false z1) m' hm' hN' (of_decide_eq_false z2)
 ·obtain⟨e,Y⟩:=h1 hb
  have all:=List.all_eq_true.mp hb
  refine⟨fun z1=>absurd (show (1000000000:Int) < m from of_decide_eq_true z1) (by have:=n9 (all m hm);omega),fun _=>mn _ fun m' hm' hN'=>⟨cp,fun z2=>absurd (show m' < (-1000000000:Int) from of_decide_eq_true z2) (by have:=n9 (all m' hm');omega),fun _=>ha e Y _ q⟩⟩
theorem ydB_of{y:Yd}(Y:YdOk y):ydB y=true:=by
 unfold ydB
 rw[Bool.and_eq_true,List.all_eq_true,List.all_eq_true]
 refine⟨fun x hx=>plB_iff.mpr (Y.ow x hx).2,fun x hx=>?_⟩
 unfold dilB
 rw[Bool.and_eq_true]
 exact⟨plB_iff.mpr (Y.od x hx).1.2,nmB3_iff.mpr (Y.od x hx).2⟩
theorem aff_back(c t:Tr):aff 1 (0 - c.1,0 - c.2.1,0 - c.2.2) (aff 1 c t)=t:=by
 obtain⟨a,b,d⟩:=t
 simp only[aff,Int.one_mul]
 refine Prod.ext ?_ (Prod.ext ?_ ?_)<;>simp only<;>omega
theorem walA_back(c:Tr)(x:Wl):walA 1 (0 - c.1,0 - c.2.1,0 - c.2.2) (walA 1 c x)=x:=by
 simp only[walA,affP,aff_back,aff_id]
theorem dilA_back(c:Tr)(x:Dl):dilA 1 (0 - c.1,0 - c.2.1,0 - c.2.2) (dilA 1 c x)=x:=by
 simp only[dilA,walA_back,aff_back]
theorem affY_back(c:Tr)(y:Yd):affY 1 (0 - c.1,0 - c.2.1,0 - c.2.2) (affY 1 c y)=y:=by
 obtain⟨a,b,d⟩:=y
 simp only[affY,List.map_map]
 rw[show (walA 1 (0 - c.1,0 - c.2.1,0 - c.2.2) ∘ walA 1 c)=id from funext (walA_back c),show (dilA 1 (0 - c.1,0 - c.2.1,0 - c.2.2) ∘ dilA 1 c)=id from funext (dilA_back c),List.map_id,List.map_id]
theorem affY_id(y:Yd):affY 1 O3 y=y:=by
 obtain⟨a,b,d⟩:=y
 have w:walA 1 O3=id:=funext fun x=>by simp only[walA,affP,aff_id,id]
 have e:dilA 1 O3=id:=funext fun x=>by simp only[dilA,w,aff_id,id]
 simp only[affY,w,e,List.map_id]
def fT(y:Yd):T:=bif ydB y then ydT y else .str zN
theorem fT_t{y:Yd}(h:ydB y=true):fT y=ydT y:=by unfold fT;rw[h];rfl
theorem fT_f{y:Yd}(h:ydB y=false):fT y=.str zN:=by unfold fT;rw[h];rfl
theorem tup3_yd(y:Yd):tup3B (ydT y):=⟨rfl,by show 3<=1000;decide⟩
abbrev lwB:WS:=(sEnt (sSeq (sBornD 8 (wCall Z0x (aCons (wC (.int 0)) (aCons (wVar 7) (aCons (wVar 2) aNil)))))
  (sSeq (sIf (tOrT (tNotT (tVal (wCall Z0J (aCons (wVar 8) (aCons (wCall Z0M (aCons (wVar 1) (aCons (wVar 2) aNil))) aNil))))) (tCmpT cNeT (wVar 7) (wVar 1))) (sRet (wC (.bl false))) sNext)
  (sSeq (sIf (tOrT (tNotT (tVal (wCall Z0J (aCons (wCall Z0x (aCons (wC (.int 1)) (aCons (wVar 7) (aCons (wVar 6) aNil)))) (aCons (wCall Z0o (aCons (wVar 1) (aCons (wVar 6) aNil))) aNil))))) (tCmpT cNeT (wVar 7) (wVar 1))) (sRet (wC (.bl false))) sNext)
  (sSeq (sIf (tAndT (tCmpT cNeT (wVar 8) (wC (.str (Str.ofString "none")))) (tCmpT cNeT (wCall (Z01 RF) (aCons (wVar 8) (aCons (wCB rTupleT (aCons (wComp (iSeq (wVar 2)) (gN 0) tTrue (w2 rSubT (wC (.int 0)) (wVar 0)) 1 []) aNil)) aNil))) (wVar 1))) (sRet (wC (.bl false))) sNext)
  (sSeq (sBornD 9 (wLst (aCons (wCall (Z02 RF) (aCons (wVar 7) (aCons (wC (.int 1)) aNil))) (aCons (wCall (Z01 RF) (aCons (wVar 7) (aCons (wTup (aCons (wC (.int 0)) (aCons (wC (.int 0)) (aCons (wC (.int 0)) aNil)))) aNil))) aNil))))
  (sSeq (sIf (tCmpT cNeT (wVar 9) (wLst (aCons (wVar 1) (aCons (wVar 1) aNil)))) (sRet (wC (.bl false))) sNext)
  (sScrapM 9 8 10 11 (tCmpT cNeT (wVar 8) (wC (.str (Str.ofString "none")))) (sRet (wCmp cEqT (wVar 7) (wVar 1)))))))))))
theorem ne_yd{n:Nat}{t:T}(p:Pn n t)(hn:n<=60)(nt:∀i,t ≠ .int i){Q:Bool->Prop}(q:Q false):cNeT t t Q:=by
 have e:EqOk t t/\Q (!eqT t t):=⟨p.ok p hn,by rw[p.self];exact q⟩
 cases t<;>first|exact e|exact absurd rfl (nt _)
theorem eq_yd{n:Nat}{t:T}(p:Pn n t)(hn:n<=60)(nt:∀i,t ≠ .int i){Q:Bool->Prop}(q:Q true):cEqT t t Q:=by
 have e:EqOk t t/\Q (eqT t t):=⟨p.ok p hn,by rw[p.self];exact q⟩
 cases t<;>first|exact e|exact absurd rfl (nt _)
theorem neg_ok(c:Tr)(Q:T->Prop)(q:Q (trT (0 - c.1,0 - c.2.1,0 - c.2.2))):compT (gN 0) tTrue (w2 rSubT (wC (.int 0)) (wVar 0)) [.int c.1,.int c.2.1,.int c.2.2] [] [Slot.no] fun rs=>Q (.tup rs):=by
 refine comp_all (P:=fun τ=>∃s0,τ=[s0]) (e:=T.int) (f:=fun x:Int=>.int (0 - x)) [c.1,c.2.1,c.2.2] [] _ _ ⟨_,rfl⟩ ?_ q
 rintro x _ _ ⟨s0,rfl⟩ K k
 exact k [.val (.int x)] ⟨_,rfl⟩ fun Q q=>q
abbrev lwE:WS:=(sSeq (sBornD 9 (wLst (aCons (wCall (Z02 RF) (aCons (wVar 7) (aCons (wC (.int 1)) aNil))) (aCons (wCall (Z01 RF) (aCons (wVar 7) (aCons (wTup (aCons (wC (.int 0)) (aCons (wC (.int 0)) (aCons (wC (.int 0)) aNil)))) aNil))) aNil))))
  (sSeq (sIf (tCmpT cNeT (wVar 9) (wLst (aCons (wVar 1) (aCons (wVar 1) aNil)))) (sRet (wC (.bl false))) sNext)
  (sScrapM 9 8 10 11 (tCmpT cNeT (wVar 8) (wC (.str (Str.ofString "none")))) (sRet (wCmp cEqT (wVar 7) (wVar 1))))))
theorem law_e{D:DT}{y z:Yd}{f:T}{v:V}{s0 s2 s3 s4 s5 s6:Slot}(Y:YdOk y)(hf:f=.str zN∨(f=ydT z/\YdOk z))(h:D.rt (.bl true)) :
  lwE D [s0,.val (ydT y),s2,s3,s4,s5,s6,.val (ydT y),.vat f v,.no,.no,.no]:=by
 have yb:=ydB_of Y
 have p0:∀Q:T->Prop,Q (ydT y)->Z01 RF [ydT y,.tup [.int 0,.int 0,.int 0]] Q:=fun Q q=>⟨y,O3,rfl,Y,fun _=>by rw[affY_id];exact q,fun b2=>by rw[affY_id,yb]at b2;cases b2⟩
 have p1:∀Q:T->Prop,Q (ydT y)->Z02 RF [ydT y,.int 1] Q:=fun Q q=>⟨y,1,rfl,Y,⟨by decide,by decide⟩,fun _=>by rw[affY_id];exact q,fun b2=>by rw[affY_id,yb]at b2;cases b2⟩
 have py:=Pn.yd Y
 have pn:Pn 0 (.str zN):=Pn.str (by decide +kernel)
 have pl:Pn 6 (.lst [ydT y,ydT y]):=Pn.lst fun x hx=>by
  simp only[List.mem_cons,List.not_mem_nil,or_false,or_self]at hx
  subst hx
  exact py
 have n2:∀Q:Bool->Prop,Q false->cNeT (.lst [ydT y,ydT y]) (.lst [ydT y,ydT y]) Q:=fun Q q=>ne_yd pl (by decide) (fun i e=>by cases e) q
 have n3:∀Q:Bool->Prop,Q false->cNeT (.str zN) (.str zN) Q:=fun Q q=>ne_yd pn (by decide) (fun i e=>by cases e) q
 have n4:YdOk z->∀Q:Bool->Prop,Q true->cNeT (ydT z) (.str zN) Q:=fun b Q q=>⟨(Pn.yd b).ok pn (by decide),q⟩
 have q1:∀Q:Bool->Prop,Q true->cEqT (ydT y) (ydT y) Q:=fun Q q=>eq_yd py (by decide) (fun i e=>by cases e) q
 have u3:∀x∈[ydT y,ydT y],tup3B x:=fun x hx=>by
  simp only[List.mem_cons,List.not_mem_nil,or_false,or_self]at hx
  subst hx
  exact tup3_yd y
 have uz:=tup3_yd z
 unfold lwE
 generalize cNeT=C at n2 n3 n4 ⊢
 generalize cEqT=CE at q1 ⊢
 generalize Z01 RF=PM at p0 ⊢
 generalize Z02 RF=PG at p1 ⊢
 refine⟨by show 9 < 12;decide,p1 _ ⟨by show 3<=1000;decide,p0 _ ⟨by show 2<=1000;decide,fun v9=>?_⟩⟩⟩
 refine⟨by show 2<=1000;decide,n2 _ ⟨(fun z=>by cases z),fun _=>?_⟩⟩
 refine⟨⟨by decide,by show 10 < 12;decide,by show 11 < 12;decide⟩,⟨by show 2<=900;decide,u3⟩,?_⟩
 rcases hf with rfl|⟨rfl,Z⟩
 ·exact n3 _ ⟨(fun z=>by cases z),q1 _ h⟩
 ·exact n4 Z _ ⟨fun _=>uz,q1 _ h⟩
theorem law_b{D:DT}{y:Yd}{c:Tr}{m:Int}{x0 t3 t4 t5:T}(Y:YdOk y)(hm:Mk m)(h:D.rt (.bl true)) :
  lwB D [.val x0,.val (ydT y),.val (trT c),.val t3,.val t4,.val t5,.val (.int m),.val (ydT y),.no,.no,.no,.no]:=by
 have hl:y.wals.length + y.dils.length<=45:=Y.lt
 have la:∀(m:Int)(c:Tr),(affY m c y).wals.length + (affY m c y).dils.length<=45:=fun m c=>by show (y.wals.map _).length + (y.dils.map _).length<=45;rw[List.length_map,List.length_map];exact hl
 have t0:∀Q:T->Prop,Q (fT (affY 1 c y))->Z0x [.int 0,ydT y,trT c] Q:=fun Q q=>.inl ⟨y,c,rfl,Y,fun b=>by rw[fT_t b]at q;exact q,fun b=>by rw[fT_f b]at q;exact q⟩
 have t1:∀Q:T->Prop,Q (fT (affY m O3 y))->Z0x [.int 1,ydT y,.int m] Q:=fun Q q=>.inr ⟨y,m,rfl,Y,hm,fun b=>by rw[fT_t b]at q;exact q,fun b=>by rw[fT_f b]at q;exact q⟩
 have fi:∀(m:Int)(c:Tr)(Q:T->Prop),Q (.bl true)->Z0J [fT (affY m c y),ydT (affY m c y)] Q:=fun m c Q q=>⟨affY m c y,_,rfl,la m c,fun b=>⟨fT_t b,affY_ok Y b⟩,fun b=>fT_f b,q⟩
 have mv:∀Q:T->Prop,Q (ydT (affY 1 c y))->Z0M [ydT y,trT c] Q:=fun Q q=>⟨y,c,rfl,Y,q⟩
 have gr:∀Q:T->Prop,Q (ydT (affY m O3 y))->Z0o [ydT y,.int m] Q:=fun Q q=>⟨y,m,rfl,Y,hm,q⟩
 have yb:=ydB_of Y
 have pb:ydB (affY 1 c y)=true->∀Q:T->Prop,Q (ydT y)->Z01 RF [ydT (affY 1 c y),trT (0 - c.1,0 - c.2.1,0 - c.2.2)] Q:=fun b Q q=>⟨_,_,rfl,affY_ok Y b,fun _=>by rw[affY_back];exact q,fun b2=>by rw[affY_back,yb]at b2;cases b2⟩
 have py:=Pn.yd Y
 have pn:Pn 0 (.str zN):=Pn.str (by decide +kernel)
 have n1:∀Q:Bool->Prop,Q false->cNeT (ydT y) (ydT y) Q:=fun Q q=>ne_yd py (by decide) (fun i e=>by cases e) q
 have n3:∀Q:Bool->Prop,Q false->cNeT (.str zN) (.str zN) Q:=fun Q q=>ne_yd pn (by decide) (fun i e=>by cases e) q
 have n4:ydB (affY 1 c y)=true->∀Q:Bool->Prop,Q true->cNeT (ydT (affY 1 c y)) (.str zN) Q:=fun b Q q=>⟨(Pn.yd (affY_ok Y b)).ok pn (by decide),q⟩
 have fa:ydB (affY 1 c y)=true->fT (affY 1 c y)=ydT (affY 1 c y):=fT_t
 have fb:ydB (affY 1 c y)=false->fT (affY 1 c y)=.str zN:=fT_f
 have hz:∀(s0 s1 s3 s4 s5 s6 s7 s8 s9 s10 s11:Slot)(Q:T->Prop),Q (trT (0 - c.1,0 - c.2.1,0 - c.2.2))->(wCB rTupleT (aCons (wComp (iSeq (wVar 2)) (gN 0) tTrue (w2 rSubT (wC (.int 0)) (wVar 0)) 1 []) aNil)) [s0,s1,.val (trT c),s3,s4,s5,s6,s7,s8,s9,s10,s11] Q:=fun _ _ _ _ _ _ _ _ _ _ _ Q q=>⟨by show 3<=1000;decide,neg_ok c Q q⟩
 have he:∀(D:DT)(f:T)(v:V),(f=.str zN∨(f=ydT (affY 1 c y)/\YdOk (affY 1 c y)))->D.rt (.bl true)->lwE D [.val x0,.val (ydT y),.val (trT c),.val t3,.val t4,.val t5,.val (.int m),.val (ydT y),.vat f v,.no,.no,.no]:=fun D f v hf h=>law_e Y hf h
 have yk:ydB (affY 1 c y)=true->YdOk (affY 1 c y):=affY_ok Y
 generalize hE:lwE=E at he
 unfold lwE at hE
 unfold lwB
 rw[hE]
 clear hE
 generalize hZ:(wCB rTupleT (aCons (wComp (iSeq (wVar 2)) (gN 0) tTrue (w2 rSubT (wC (.int 0)) (wVar 0)) 1 []) aNil))=Z
 rw[hZ]at hz
 clear hZ
 generalize cNeT=C at n1 n3 n4 ⊢
 generalize Z0x=ST at t0 t1 ⊢
 generalize Z0J=SF at fi ⊢
 generalize Z0M=SM at mv ⊢
 generalize Z0o=SG at gr ⊢
 generalize Z01 RF=PM at pb ⊢
 have fi0:=fi 1 c
 have fi1:=fi m O3
 generalize fT (affY 1 c y)=f at t0 fi0 fa fb
 generalize fT (affY m O3 y)=g at t1 fi1
 generalize affY m O3 y=y2 at gr fi1
 clear fi
 refine⟨rfl,⟨by show 8 < 12;decide,t0 _ fun v=>?_⟩⟩
 refine mv _ (fi0 _ ⟨(fun z=>by cases z),fun _=>n1 _ ⟨(fun z=>by cases z),fun _=>?_⟩⟩)
 refine t1 _ (gr _ (fi1 _ ⟨(fun z=>by cases z),fun _=>n1 _ ⟨(fun z=>by cases z),fun _=>?_⟩⟩))
 cases hb:ydB (affY 1 c y)
 ·obtain rfl:=fb hb
  exact n3 _ ⟨(fun z=>by cases z),fun _=>⟨(fun z=>by cases z),fun _=>he _ _ v (.inl rfl) h⟩⟩
 ·obtain rfl:=fa hb
  have last:=fun D=>he D _ v (.inr ⟨rfl,yk hb⟩)
  refine n4 hb _ ⟨fun _=>?_,fun z=>by cases z⟩
  refine hz _ _ _ _ _ _ _ _ _ _ _ _ ?_
  refine pb hb _ ?_
  refine n1 _ ⟨(fun z=>by cases z),fun _=>?_⟩
  exact last _ h
abbrev zM:WE:=(wCB rMaxLT (aCons (wComp (iSeq (wCall Z0e (aCons (wVar 1) aNil))) (gN 0) tTrue (wCB rAbsT (aCons (wVar 0) aNil)) 1 []) aNil))
abbrev zR:WE:=(wCB rMinT (aCons (wC (.int 1000)) (aCons (w2 rDivT (w2 rPowT (wC (.int 10)) (wC (.int 9))) (wCB rMaxT (aCons (wC (.int 1)) (aCons (wVar 3) aNil)))) aNil)))
abbrev zK:WE:=(w2 rIxTT (wLst (aCons (w2 rAddT (wC (.int 1)) (wCall Z00 (aCons (wVar 4) (aCons (wC (.int 0)) (aCons (wC (.int 1000)) aNil))))) (aCons (wCB rMaxT (aCons (wC (.int 1)) (aCons (wVar 5) aNil))) (aCons (wCB rMinT (aCons (wC (.int 1000)) (aCons (w2 rAddT (wVar 5) (wC (.int 1))) aNil))) aNil)))) (wCall Z00 (aCons (wVar 4) (aCons (wC (.int 1)) (aCons (wC (.int 3)) aNil)))))
abbrev zH:WE:=(wTup (aCons (wCB rListT (aCons (w2 rIxTT (wVar 1) (wC (.int 0))) aNil)) (aCons (wCB rListT (aCons (w2 rIxTT (wVar 1) (wC (.int 1))) aNil)) (aCons (wCB rListT (aCons (w2 rIxTT (wVar 1) (wC (.int 2))) aNil)) aNil))))
theorem nums_len{y:Yd}(h:y.wals.length + y.dils.length<=45):(nums y).length<=1000:=by
 have f1:=fm_len (n:=9) (f:=fun w:Wl=>pl9 w.2) (fun _=>rfl) y.wals
 have f2:=fm_len (n:=12) (f:=dl12) (fun _=>rfl) y.dils
 unfold nums
 rw[List.length_append,List.length_append,f1,f2]
 show 1 + _ + _<=_
 omega
abbrev ab(i:Int):Int:=if i < 0 then -i else i
theorem zM_ok{y:Yd}(Y:YdOk y){s0:Slot}{ss:List Slot}{Q:T->Prop}(q:∀m:Int,0<=m->m<=1000000000->Q (.int m)):zM (s0 :: .val (ydT y)::ss) Q:=by
 have key:compT (gN 0) tTrue (wCB rAbsT (aCons (wVar 0) aNil)) ((nums y).map T.int) [] [Slot.no] fun rs=>rMaxLT [.lst rs] Q:=by
  refine comp_all (P:=fun τ=>∃s0,τ=[s0]) (e:=T.int) (f:=fun x:Int=>.int (ab x)) (nums y) [] _ _ ⟨_,rfl⟩ ?_ ?_
  ·rintro x _ _ ⟨s0,rfl⟩ K k
   exact k [.val (.int x)] ⟨_,rfl⟩ fun Q q=>q
  ·rw[List.nil_append,show ((nums y).map fun x:Int=>T.int (ab x))=((nums y).map ab).map T.int from by rw[List.map_map];rfl]
   unfold rMaxLT
   simp only[intsOf_map]
   refine⟨by unfold nums;simp,fun m hm _=>?_⟩
   obtain⟨i,hi,rfl⟩:=List.mem_map.mp hm
   have hb:=ydB_of Y
   rw[ydB_nums]at hb
   have h9:i.natAbs<=1000000000:=nB_iff.mp (List.all_eq_true.mp hb i hi)
   exact q _ (by unfold ab;split<;>omega) (by unfold ab;split<;>omega)
 refine⟨y,rfl,Y.lt,?_⟩
 exact⟨by rw[List.length_map];exact nums_len Y.lt,key⟩
theorem zR_ok{m:Int}(m0:0<=m)(m1:m<=1000000000){s0 s1 s2:Slot}{ss:List Slot}{Q:T->Prop}(q:∀r:Int,0<=r->r<=1000->Q (.int r)):zR (s0::s1::s2 :: .val (.int m)::ss) Q:=by
 have cp:CPow 10 9:=⟨by decide,by decide,by decide⟩
 have M1:1<=(if m > 1 then m else 1):=by split<;>omega
 have M2:(if m > 1 then m else 1)<=1000000000:=by split<;>omega
 have dv:DivOk (if m > 1 then m else 1):=divOk (by omega) (Lim.of (n:=12) (by omega) (by omega))
 have d0:0<=Int.fdiv ((10:Int) ^ (9:Int).toNat) (if m > 1 then m else 1):=Int.fdiv_nonneg (by decide) (by omega)
 refine⟨cp,dv,?_⟩
 have key:∀d:Int,0<=d->0<=(if d < 1000 then d else 1000)/\(if d < 1000 then d else 1000)<=1000:=fun d hd=>by constructor<;>split<;>omega
 exact q _ (key _ d0).1 (key _ d0).2
theorem zK_ok{v r:Int}(r0:0<=r)(r1:r<=1000){s0 s1 s2 s3:Slot}{ss:List Slot}{Q:T->Prop}(q:∀m:Int,Mk m->Q (.int m)):zK (s0::s1::s2::s3 :: .val (.int v) :: .val (.int r)::ss) Q:=by
 refine⟨v,0,1000,rfl,by decide,by decide,by decide,by decide,fun a a0 a1=>?_⟩
 refine⟨by show 3<=1000;decide,v,1,3,rfl,by decide,by decide,by decide,by decide,fun b b0 b1=>?_⟩
 have h1:=q (1 + a) ⟨by omega,by omega⟩
 have h2:=q (if r > 1 then r else 1) ⟨by split<;>omega,by split<;>omega⟩
 have h3:=q (if r + 1 < 1000 then r + 1 else 1000) ⟨by split<;>omega,by split<;>omega⟩
 obtain rfl|rfl|rfl:b=0∨b=1∨b=2:=by omega
 ·exact h1
 ·exact h2
 ·exact h3
theorem zH_ok{y:Yd}{s0:Slot}{ss:List Slot}{Q:T->Prop}(q:Q (ydT y)):zH (s0 :: .val (ydT y)::ss) Q:=by
 have a0:atI (ydL y) 0=some (.lst (y.suns.map sunE)):=atI_nat (j:=0) rfl
 have a1:atI (ydL y) 1=some (.lst (y.wals.map walE)):=atI_nat (j:=1) rfl
 have a2:atI (ydL y) 2=some (.lst (y.dils.map dilE)):=atI_nat (j:=2) rfl
 show (match atI (ydL y) 0 with|some t=>_|none=>False)
 rw[a0]
 show (match atI (ydL y) 1 with|some t=>_|none=>False)
 rw[a1]
 show (match atI (ydL y) 2 with|some t=>_|none=>False)
 rw[a2]
 exact⟨by show 3<=1000;decide,q⟩
def Z3N:WS :=
 (sSeq (sSet 1 (wCall Z1s (aCons (wVar 0) aNil)))
  (sSeq (sSet 2 (wCall Z0Z (aCons (wVar 1) (aCons (wCall Z0b (aCons (wVar 0) (aCons (wC (.int 1)) aNil))) aNil))))
  (sSeq (sSet 3 (wCB rMaxLT (aCons (wComp (iSeq (wCall Z0e (aCons (wVar 1) aNil))) (gN 0) tTrue (wCB rAbsT (aCons (wVar 0) aNil)) 1 []) aNil)))
  (sSeq (sSet 4 (wCall Z0b (aCons (wVar 0) (aCons (wC (.int 2)) aNil))))
  (sSeq (sSet 5 (wCB rMinT (aCons (wC (.int 1000)) (aCons (w2 rDivT (w2 rPowT (wC (.int 10)) (wC (.int 9))) (wCB rMaxT (aCons (wC (.int 1)) (aCons (wVar 3) aNil)))) aNil))))
  (sSeq (sSet 6 (w2 rIxTT (wLst (aCons (w2 rAddT (wC (.int 1)) (wCall Z00 (aCons (wVar 4) (aCons (wC (.int 0)) (aCons (wC (.int 1000)) aNil))))) (aCons (wCB rMaxT (aCons (wC (.int 1)) (aCons (wVar 5) aNil))) (aCons (wCB rMinT (aCons (wC (.int 1000)) (aCons (w2 rAddT (wVar 5) (wC (.int 1))) aNil))) aNil)))) (wCall Z00 (aCons (wVar 4) (aCons (wC (.int 1)) (aCons (wC (.int 3)) aNil))))))
  (sSeq (sSet 7 (wTup (aCons (wCB rListT (aCons (w2 rIxTT (wVar 1) (wC (.int 0))) aNil)) (aCons (wCB rListT (aCons (w2 rIxTT (wVar 1) (wC (.int 1))) aNil)) (aCons (wCB rListT (aCons (w2 rIxTT (wVar 1) (wC (.int 2))) aNil)) aNil)))))
  (sEnt (sSeq (sBornD 8 (wCall Z0x (aCons (wC (.int 0)) (aCons (wVar 7) (aCons (wVar 2) aNil)))))
  (sSeq (sIf (tOrT (tNotT (tVal (wCall Z0J (aCons (wVar 8) (aCons (wCall Z0M (aCons (wVar 1) (aCons (wVar 2) aNil))) aNil))))) (tCmpT cNeT (wVar 7) (wVar 1))) (sRet (wC (.bl false))) sNext)
  (sSeq (sIf (tOrT (tNotT (tVal (wCall Z0J (aCons (wCall Z0x (aCons (wC (.int 1)) (aCons (wVar 7) (aCons (wVar 6) aNil)))) (aCons (wCall Z0o (aCons (wVar 1) (aCons (wVar 6) aNil))) aNil))))) (tCmpT cNeT (wVar 7) (wVar 1))) (sRet (wC (.bl false))) sNext)
  (sSeq (sIf (tAndT (tCmpT cNeT (wVar 8) (wC (.str (Str.ofString "none")))) (tCmpT cNeT (wCall (Z01 RF) (aCons (wVar 8) (aCons (wCB rTupleT (aCons (wComp (iSeq (wVar 2)) (gN 0) tTrue (w2 rSubT (wC (.int 0)) (wVar 0)) 1 []) aNil)) aNil))) (wVar 1))) (sRet (wC (.bl false))) sNext)
  (sSeq (sBornD 9 (wLst (aCons (wCall (Z02 RF) (aCons (wVar 7) (aCons (wC (.int 1)) aNil))) (aCons (wCall (Z01 RF) (aCons (wVar 7) (aCons (wTup (aCons (wC (.int 0)) (aCons (wC (.int 0)) (aCons (wC (.int 0)) aNil)))) aNil))) aNil))))
  (sSeq (sIf (tCmpT cNeT (wVar 9) (wLst (aCons (wVar 1) (aCons (wVar 1) aNil)))) (sRet (wC (.bl false))) sNext)
  (sScrapM 9 8 10 11 (tCmpT cNeT (wVar 8) (wC (.str (Str.ofString "none")))) (sRet (wCmp cEqT (wVar 7) (wVar 1))))))))))))))))))
theorem Z4t:∀ts Q,lawSp ts Q->Z3N {nx:=fun _=>Q .non,rt:=Q} (startT 12 ts):=by
 rintro _ Q ⟨ns,rfl,hl,h⟩
 have hy:∀(Q:T->Prop),(∀y:Yd,YdOk y->Q (ydT y))->Z1s [.lst (ns.map T.int)] Q:=fun Q q=>⟨ns,rfl,hl,fun y Y _=>q y Y⟩
 have hc:∀(k:Int)(Q:T->Prop),0<=k->(∀v:Int,Q (.int v))->Z0b [.lst (ns.map T.int),.int k] Q:=fun k Q a q=>⟨ns,k,rfl,a,q⟩
 have hd:∀(y:Yd)(v:Int)(Q:T->Prop),YdOk y->(∀c:Tr,Q (trT c))->Z0Z [ydT y,.int v] Q:=fun y v Q Y q=>⟨y,v,rfl,Y.lt,q⟩
 have km:=fun (y:Yd) (Y:YdOk y) (s0:Slot) (ss:List Slot) (Q:T->Prop) q=>zM_ok Y (s0:=s0) (ss:=ss) (Q:=Q) q
 have kr:=fun (m:Int) m0 m1 (s0 s1 s2:Slot) (ss:List Slot) (Q:T->Prop) q=>zR_ok (m:=m) m0 m1 (s0:=s0) (s1:=s1) (s2:=s2) (ss:=ss) (Q:=Q) q
 have kk:=fun (v r:Int) r0 r1 (s0 s1 s2 s3:Slot) (ss:List Slot) (Q:T->Prop) q=>zK_ok (v:=v) (r:=r) r0 r1 (s0:=s0) (s1:=s1) (s2:=s2) (s3:=s3) (ss:=ss) (Q:=Q) q
 have kh:=fun (y:Yd) (s0:Slot) (ss:List Slot) (Q:T->Prop) q=>zH_ok (y:=y) (s0:=s0) (ss:=ss) (Q:=Q) q
 have kb:=fun (y:Yd) (Y:YdOk y) (c:Tr) (m:Int) (hm:Mk m) (t0 t3 t4 t5:T)=>law_b (D:={nx:=fun _=>Q .non,rt:=Q}) (c:=c) (x0:=t0) (t3:=t3) (t4:=t4) (t5:=t5) Y hm h
 generalize hM:zM=ZM at km
 generalize hR:zR=ZR at kr
 generalize hK:zK=ZK at kk
 generalize hH:zH=ZH at kh
 generalize hB:lwB=LB at kb
 unfold zM at hM
 unfold zR at hR
 unfold zK at hK
 unfold zH at hH
 unfold lwB at hB
 unfold Z3N
 rw[hB,hM,hR,hK,hH]
 clear hB hM hR hK hH
 generalize Z1s=SY at hy ⊢
 generalize Z0b=SC at hc ⊢
 generalize Z0Z=SD at hd ⊢
 refine hy _ fun y Y=>?_
 refine hc 1 _ (by decide) fun v=>?_
 refine hd y v _ Y fun c=>?_
 refine km y Y _ _ _ fun m m0 m1=>?_
 refine hc 2 _ (by decide) fun w=>?_
 refine kr m m0 m1 _ _ _ _ _ fun r r0 r1=>?_
 refine kk w r r0 r1 _ _ _ _ _ _ fun k hk=>?_
 refine kh y _ _ _ ?_
 exact kb y Y c k hk _ _ _ _
local macro_rules|`(tactic| walk_at "v")=>`(tactic| exact⟨by first|exact Or.inl rfl|exact Or.inr (Or.inl rfl)|exact Or.inr (Or.inr rfl),by decide,by decide⟩)
local macro_rules|`(tactic| walk_at "s")=>`(tactic| exact⟨rfl,rfl,rfl,by decide +kernel,rfl,by decide +kernel,by decide +kernel⟩)
local macro_rules|`(tactic| walk_at "f")=>`(tactic| first|exact .inl rfl|exact .inr rfl|assumption)
theorem jV{X:Cx}(i:Nat){x:Str}{pos:Pos}(hN:X.N[i]?=some x) (h:Vis X.env.scope x/\(x==("__debug__" : Str))=false/\(x==("__classdict__" : Str))=false):JE X (.Name x pos) (wVar i):=jv i hN h.1 h.2.1 h.2.2
def top(i:Nat):Stmt:=PySem.Challenge.pw_dialyard_k82_moved_and_greater.main.body.getD i (.Pass ⟨0,0,0,0⟩)
abbrev ini_NoYard:Stmt:=inSt (top 5)
theorem sc_ini_NoYard:FnScope ["self", "name"] ["self", "name"] (defScope ini_NoYard):=by walk_at "s"
section
variable {P:Program} {w:World} {K:PySem.W.Frag} {mg:Str->Option Value} {base:Heap}
abbrev Z0N:Stmt:=top 31
theorem Z3u:FnScope ["_law_script", "_law_k"] ["_law_script", "_law_k"] (defScope Z0N):=by walk_at "s"
theorem Z3v{f:Addr}{fd:FuncData} (F:Fun K "_law_cell_at" "_law_cell_at" Z0N f fd) (m:mg "_law_cell_at" = some (.ref f)) (z_len:mg "len" = none):Cal P w K mg base 1 "_law_cell_at" ["_law_script", "_law_k"] Z0b :=
 .mk F m (F.binds fun _ _ _ _ _ _ us hl=>args2 hl fun _ _=>rfl) (fnT (W:=Z27) F Z3u Z3a (fun cdv A outer s H E hr =>
  (@jsc _ _ _ _ _ (@jsif _ _ _ _ _ _ _ _ (@tcmp _ _ _ _ _ _ _ _ c_lt (@jV _ 1 _ _ rfl (by walk_at "v")) (@jblt _ _ _ _ _ _ _ _ _ bl_len rfl z_len boot_len (@ja _ _ _ _ _ (@jV _ 0 _ _ rfl (by walk_at "v")) (@ja0 _) (star1 rfl)) (by decide) (by decide) (star1 rfl) (stars rfl)) (nomark _)) (@js1 _ _ _ (@jret _ _ _ _ (@jix _ _ _ _ _ _ (@jV _ 0 _ _ rfl (by walk_at "v")) (@jV _ 1 _ _ rfl (by walk_at "v")) (fun _ _=>rfl)))) (@js0 _)) (@js1 _ _ _ (@jret _ _ _ _ (@ji _ _ _ _))))) Z3m)
abbrev Z1J:Stmt:=top 32
theorem Z1K:FnScope ["_law_cell", "_law_k", "_law_many", "_law_number_here", "_law_left", "_law_j"] ["_law_cell", "_law_k", "_law_many"] (defScope Z1J):=by walk_at "s"
theorem Z4m{f:Addr}{fd:FuncData} (F:Fun K "_law_draw" "_law_draw" Z1J f fd) (m:mg "_law_draw" = some (.ref f)) (z_range:mg "range" = none):Cal P w K mg base 1 "_law_draw" ["_law_cell", "_law_k", "_law_many"] Z00 :=
 .mk F m (F.binds fun _ _ _ _ _ _ us hl=>args3 hl fun _ _ _=>rfl) (fnT (W:=Z39) F Z1K Z3V (fun cdv A outer s H E hr =>
  (@jsc _ _ _ _ _ (@jsif _ _ _ _ _ _ _ _ (@tcmp _ _ _ _ _ _ _ _ c_ge (@jV _ 0 _ _ rfl (by walk_at "v")) (@jop _ _ _ _ _ _ _ _ b_pow (@ji _ _ _ _) (@ji _ _ _ _)) (nomark _)) (@jsc _ _ _ _ _ (@jset _ _ _ _ (4) _ _ Z1K.nd rfl (Or.inl rfl) (@jV _ 0 _ _ rfl (by walk_at "v")) (by rfl) (by walk_at "f")) (@jsc _ _ _ _ _ (@jfor _ _ _ _ _ _ _ _ PassesOwn.never rfl (@jiRange1 _ _ _ _ _ _ rfl z_range (@ja _ _ _ _ _ (@jV _ 1 _ _ rfl (by walk_at "v")) (@ja0 _) (star1 rfl)) (by rfl)) (@jg _ _ (5) _ Z1K.nd rfl (Or.inl rfl) (by walk_at "f")) (@js1 _ _ _ (@jset _ _ _ _ (4) _ _ Z1K.nd rfl (Or.inl rfl) (@jop _ _ _ _ _ _ _ _ b_div (@jV _ 4 _ _ rfl (by walk_at "v")) (@jop _ _ _ _ _ _ _ _ b_pow (@ji _ _ _ _) (@ji _ _ _ _))) (by rfl) (by walk_at "f"))) (fun _=>rfl)) (@js1 _ _ _ (@jsif _ _ _ _ _ _ _ _ (@tcmp _ _ _ _ _ _ _ _ c_gt (@jV _ 4 _ _ rfl (by walk_at "v")) (@ji _ _ _ _) (nomark _)) (@js1 _ _ _ (@jret _ _ _ _ (@jop _ _ _ _ _ _ _ _ b_mod (@jop _ _ _ _ _ _ _ _ b_mod (@jV _ 4 _ _ rfl (by walk_at "v")) (@jop _ _ _ _ _ _ _ _ b_pow (@ji _ _ _ _) (@ji _ _ _ _))) (@jV _ 2 _ _ rfl (by walk_at "v"))))) (@js0 _))))) (@js0 _)) (@jsc _ _ _ _ _ (@jset _ _ _ _ (3) _ _ Z1K.nd rfl (Or.inl rfl) (@jop _ _ _ _ _ _ _ _ b_mod (@jop _ _ _ _ _ _ _ _ b_mul (@jop _ _ _ _ _ _ _ _ b_add (@jop _ _ _ _ _ _ _ _ b_add (@jop _ _ _ _ _ _ _ _ b_add (@jop _ _ _ _ _ _ _ _ b_mod (@jV _ 0 _ _ rfl (by walk_at "v")) (@ji _ _ _ _)) (@jop _ _ _ _ _ _ _ _ b_mul (@jop _ _ _ _ _ _ _ _ b_mul (@ji _ _ _ _) (@jV _ 1 _ _ rfl (by walk_at "v"))) (@jV _ 1 _ _ rfl (by walk_at "v")))) (@jop _ _ _ _ _ _ _ _ b_mul (@ji _ _ _ _) (@jV _ 1 _ _ rfl (by walk_at "v")))) (@ji _ _ _ _)) (@ji _ _ _ _)) (@ji _ _ _ _)) (by rfl) (by walk_at "f")) (@jsc _ _ _ _ _ (@jset _ _ _ _ (3) _ _ Z1K.nd rfl (Or.inl rfl) (@jop _ _ _ _ _ _ _ _ b_mod (@jop _ _ _ _ _ _ _ _ b_add (@jop _ _ _ _ _ _ _ _ b_add (@jop _ _ _ _ _ _ _ _ b_mul (@jV _ 3 _ _ rfl (by walk_at "v")) (@jV _ 3 _ _ rfl (by walk_at "v"))) (@jop _ _ _ _ _ _ _ _ b_mul (@ji _ _ _ _) (@jV _ 1 _ _ rfl (by walk_at "v")))) (@ji _ _ _ _)) (@ji _ _ _ _)) (by rfl) (by walk_at "f")) (@js1 _ _ _ (@jret _ _ _ _ (@jop _ _ _ _ _ _ _ _ b_mod (@jop _ _ _ _ _ _ _ _ b_mod (@jop _ _ _ _ _ _ _ _ b_mul (@jV _ 3 _ _ rfl (by walk_at "v")) (@jV _ 3 _ _ rfl (by walk_at "v"))) (@ji _ _ _ _)) (@jV _ 2 _ _ rfl (by walk_at "v"))))))))) Z4f)
abbrev Z10:Stmt:=top 40
theorem Z11:FnScope ["_law_cell", "_law_many", "_law_letters", "_law_stem", "_law_at", "_law_found", "_law_k", "_law_sign"] ["_law_cell", "_law_many"] (defScope Z10):=by walk_at "s"
theorem Z47{f:Addr}{fd:FuncData} (F:Fun K "_law_names" "_law_names" Z10 f fd) (m:mg "_law_names" = some (.ref f)) (Z03:Cal P w K mg base 1 "_law_draw" ["_law_cell", "_law_k", "_law_many"] Z00) (z_range:mg "range" = none) (z_len:mg "len" = none):Cal P w K mg base 2 "_law_names" ["_law_cell", "_law_many"] Z1G :=
 .mk F m (F.binds fun _ _ _ _ _ _ us hl=>args2 hl fun _ _=>rfl) (fnT (W:=Z2I) F Z11 Z3H (fun cdv A outer s H E hr =>
  (@jsc _ _ _ _ _ (@jset _ _ _ _ (2) _ _ Z11.nd rfl (Or.inr rfl) (@js _ _ _ _) (by rfl) (by walk_at "f")) (@jsc _ _ _ _ _ (@jset _ _ _ _ (3) _ _ Z11.nd rfl (Or.inl rfl) (@jjoin _ _ _ _ _ _ _ (@js _ _ _ _) (@jcomp _ _ _ _ _ _ _ (defScope Z10) (["_law_k"]) (["_law_cell" , "_law_many" , "_law_letters" , "_law_stem" , "_law_at" , "_law_found" , "_law_k" , "_law_sign"]) ([("_law_letters" , 2) , ("_law_cell" , 0)]) _ _ _ _ rfl rfl rfl (@jiRange1 _ _ _ _ _ _ rfl z_range (@ja _ _ _ _ _ (@jcallC _ _ _ _ _ _ _ _ _ _ Z03 (hr.mono (by omega)) rfl (@ja _ _ _ _ _ (@jV _ 0 _ _ rfl (by walk_at "v")) (@ja _ _ _ _ _ (@ji _ _ _ _) (@ja _ _ _ _ _ (@ji _ _ _ _) (@ja0 _) (star1 rfl)) (star1 rfl)) (star1 rfl)) (by decide) (star1 rfl) (stars rfl)) (@ja0 _) (star1 rfl)) (by rfl)) rfl rfl (by decide +kernel) (by decide +kernel) (by decide +kernel) (by decide +kernel) (fun cl C s3 H2 ex=>(@jg _ _ (0) _ (show List.Nodup (["_law_k" , "_law_letters" , "_law_cell"]:List Str) from by decide +kernel) rfl (Or.inl rfl) (by walk_at "f"))) (fun cl C s3 H2 ex=>(@jts0 _)) (fun cl C s3 H2 ex=>(@jixS _ _ _ _ _ _ (@jV _ 1 _ _ rfl (by walk_at "v")) (@jcallC _ _ _ _ _ _ _ _ _ _ Z03 (hr.mono (by omega)) rfl (@ja _ _ _ _ _ (@jV _ 2 _ _ rfl (by walk_at "v")) (@ja _ _ _ _ _ (@jop _ _ _ _ _ _ _ _ b_add (@ji _ _ _ _) (@jV _ 0 _ _ rfl (by walk_at "v"))) (@ja _ _ _ _ _ (@ji _ _ _ _) (@ja0 _) (star1 rfl)) (star1 rfl)) (star1 rfl)) (by decide) (star1 rfl) (stars rfl)) (fun _ _=>rfl))) (fun _=>rfl)) (star1 rfl) (by rfl) (by rfl) (by rfl)) (by rfl) (by walk_at "f")) (@jsc _ _ _ _ _ (@jset _ _ _ _ (4) _ _ Z11.nd rfl (Or.inl rfl) (@jcallC _ _ _ _ _ _ _ _ _ _ Z03 (hr.mono (by omega)) rfl (@ja _ _ _ _ _ (@jV _ 0 _ _ rfl (by walk_at "v")) (@ja _ _ _ _ _ (@ji _ _ _ _) (@ja _ _ _ _ _ (@jop _ _ _ _ _ _ _ _ b_add (@jblt _ _ _ _ _ _ _ _ _ bl_lenS rfl z_len boot_len (@ja _ _ _ _ _ (@jV _ 3 _ _ rfl (by walk_at "v")) (@ja0 _) (star1 rfl)) (by decide) (by decide) (star1 rfl) (stars rfl)) (@ji _ _ _ _)) (@ja0 _) (star1 rfl)) (star1 rfl)) (star1 rfl)) (by decide) (star1 rfl) (stars rfl)) (by rfl) (by walk_at "f")) (@jsc _ _ _ _ _ (@jown _ _ _ _ (5) _ _ _ Z11.nd rfl (Or.inl rfl) (@ja0 _) (by rfl) (by walk_at "f")) (@jsc _ _ _ _ _ (@jfor _ _ _ _ _ _ _ _ PassesOwn.never rfl (@jiRange1 _ _ _ _ _ _ rfl z_range (@ja _ _ _ _ _ (@jV _ 1 _ _ rfl (by walk_at "v")) (@ja0 _) (star1 rfl)) (by rfl)) (@jg _ _ (6) _ Z11.nd rfl (Or.inl rfl) (by walk_at "f")) (@jsc _ _ _ _ _ (@jset _ _ _ _ (7) _ _ Z11.nd rfl (Or.inl rfl) (@jop _ _ _ _ _ _ _ _ b_addS (@jixS _ _ _ _ _ _ (@jV _ 2 _ _ rfl (by walk_at "v")) (@jop _ _ _ _ _ _ _ _ b_mod (@jop _ _ _ _ _ _ _ _ b_mul (@jV _ 6 _ _ rfl (by walk_at "v")) (@ji _ _ _ _)) (@ji _ _ _ _)) (fun _ _=>rfl)) (@jix _ _ _ _ _ _ (@jlst _ _ _ _ (@ja _ _ _ _ _ (@js _ _ _ _) (@ja _ _ _ _ _ (@js _ _ _ _) (@ja0 _) (star1 rfl)) (star1 rfl))) (@jop _ _ _ _ _ _ _ _ b_div (@jV _ 6 _ _ rfl (by walk_at "v")) (@ji _ _ _ _)) (fun _ _=>rfl))) (by rfl) (by walk_at "f")) (@js1 _ _ _ (@japp _ _ _ _ _ _ _ _ _ (pv 5) (@jop _ _ _ _ _ _ _ _ b_addS (@jop _ _ _ _ _ _ _ _ b_addS (@jslS _ _ _ _ _ _ _ _ _ (@jV _ 3 _ _ rfl (by walk_at "v")) (@jo0 _) (@jo _ _ _ (@jV _ 4 _ _ rfl (by walk_at "v")))) (@jV _ 7 _ _ rfl (by walk_at "v"))) (@jslS _ _ _ _ _ _ _ _ _ (@jV _ 3 _ _ rfl (by walk_at "v")) (@jo _ _ _ (@jV _ 4 _ _ rfl (by walk_at "v"))) (@jo0 _))) (by rfl) (by rfl) (by rfl) (by rfl) (by rfl) (by rfl)))) (fun _=>rfl)) (@jfrz _ _ 5 _ (@js1 _ _ _ (@jret _ _ _ _ (@jV _ 5 _ _ rfl (by walk_at "v"))))))))))) Z3Z)
abbrev Z12:Stmt:=top 33
theorem Z2Q:FnScope ["_law_cell", "_law_k", "_law_kind"] ["_law_cell", "_law_k"] (defScope Z12):=by walk_at "s"
theorem Z3O{f:Addr}{fd:FuncData} (F:Fun K "_law_number" "_law_number" Z12 f fd) (m:mg "_law_number" = some (.ref f)) (Z03:Cal P w K mg base 1 "_law_draw" ["_law_cell", "_law_k", "_law_many"] Z00):Cal P w K mg base 2 "_law_number" ["_law_cell", "_law_k"] Z0K :=
 .mk F m (F.binds fun _ _ _ _ _ _ us hl=>args2 hl fun _ _=>rfl) (fnT (W:=Z2o) F Z2Q Z3n (fun cdv A outer s H E hr =>
  (@jsc _ _ _ _ _ (@jset _ _ _ _ (2) _ _ Z2Q.nd rfl (Or.inl rfl) (@jcallC _ _ _ _ _ _ _ _ _ _ Z03 (hr.mono (by omega)) rfl (@ja _ _ _ _ _ (@jV _ 0 _ _ rfl (by walk_at "v")) (@ja _ _ _ _ _ (@jop _ _ _ _ _ _ _ _ b_mul (@ji _ _ _ _) (@jV _ 1 _ _ rfl (by walk_at "v"))) (@ja _ _ _ _ _ (@ji _ _ _ _) (@ja0 _) (star1 rfl)) (star1 rfl)) (star1 rfl)) (by decide) (star1 rfl) (stars rfl)) (by rfl) (by walk_at "f")) (@jsc _ _ _ _ _ (@jsif _ _ _ _ _ _ _ _ (@tcmp _ _ _ _ _ _ _ _ c_lt (@jV _ 2 _ _ rfl (by walk_at "v")) (@ji _ _ _ _) (nomark _)) (@js1 _ _ _ (@jret _ _ _ _ (@jop _ _ _ _ _ _ _ _ b_sub (@jcallC _ _ _ _ _ _ _ _ _ _ Z03 (hr.mono (by omega)) rfl (@ja _ _ _ _ _ (@jV _ 0 _ _ rfl (by walk_at "v")) (@ja _ _ _ _ _ (@jop _ _ _ _ _ _ _ _ b_add (@jop _ _ _ _ _ _ _ _ b_mul (@ji _ _ _ _) (@jV _ 1 _ _ rfl (by walk_at "v"))) (@ji _ _ _ _)) (@ja _ _ _ _ _ (@ji _ _ _ _) (@ja0 _) (star1 rfl)) (star1 rfl)) (star1 rfl)) (by decide) (star1 rfl) (stars rfl)) (@ji _ _ _ _)))) (@js0 _)) (@jsc _ _ _ _ _ (@jsif _ _ _ _ _ _ _ _ (@tcmp _ _ _ _ _ _ _ _ c_lt (@jV _ 2 _ _ rfl (by walk_at "v")) (@ji _ _ _ _) (nomark _)) (@js1 _ _ _ (@jret _ _ _ _ (@jop _ _ _ _ _ _ _ _ b_sub (@jcallC _ _ _ _ _ _ _ _ _ _ Z03 (hr.mono (by omega)) rfl (@ja _ _ _ _ _ (@jV _ 0 _ _ rfl (by walk_at "v")) (@ja _ _ _ _ _ (@jop _ _ _ _ _ _ _ _ b_add (@jop _ _ _ _ _ _ _ _ b_mul (@ji _ _ _ _) (@jV _ 1 _ _ rfl (by walk_at "v"))) (@ji _ _ _ _)) (@ja _ _ _ _ _ (@ji _ _ _ _) (@ja0 _) (star1 rfl)) (star1 rfl)) (star1 rfl)) (by decide) (star1 rfl) (stars rfl)) (@ji _ _ _ _)))) (@js0 _)) (@js1 _ _ _ (@jret _ _ _ _ (@jop _ _ _ _ _ _ _ _ b_mul (@jix _ _ _ _ _ _ (@jlst _ _ _ _ (@ja _ _ _ _ _ (@ji _ _ _ _) (@ja _ _ _ _ _ (@jneg _ _ _ _ (@ji _ _ _ _)) (@ja0 _) (star1 rfl)) (star1 rfl))) (@jcallC _ _ _ _ _ _ _ _ _ _ Z03 (hr.mono (by omega)) rfl (@ja _ _ _ _ _ (@jV _ 0 _ _ rfl (by walk_at "v")) (@ja _ _ _ _ _ (@jop _ _ _ _ _ _ _ _ b_add (@jop _ _ _ _ _ _ _ _ b_mul (@ji _ _ _ _) (@jV _ 1 _ _ rfl (by walk_at "v"))) (@ji _ _ _ _)) (@ja _ _ _ _ _ (@ji _ _ _ _) (@ja0 _) (star1 rfl)) (star1 rfl)) (star1 rfl)) (by decide) (star1 rfl) (stars rfl)) (fun _ _=>rfl)) (@jop _ _ _ _ _ _ _ _ b_sub (@jop _ _ _ _ _ _ _ _ b_sub (@jop _ _ _ _ _ _ _ _ b_pow (@ji _ _ _ _) (@ji _ _ _ _)) (@jop _ _ _ _ _ _ _ _ b_div (@jcallC _ _ _ _ _ _ _ _ _ _ Z03 (hr.mono (by omega)) rfl (@ja _ _ _ _ _ (@jV _ 0 _ _ rfl (by walk_at "v")) (@ja _ _ _ _ _ (@jop _ _ _ _ _ _ _ _ b_mul (@ji _ _ _ _) (@jV _ 1 _ _ rfl (by walk_at "v"))) (@ja _ _ _ _ _ (@ji _ _ _ _) (@ja0 _) (star1 rfl)) (star1 rfl)) (star1 rfl)) (by decide) (star1 rfl) (stars rfl)) (@ji _ _ _ _))) (@ji _ _ _ _))))))))) Z3A)
abbrev Z13:Stmt:=top 34
theorem Z3P:FnScope ["_law_cell", "_law_k"] ["_law_cell", "_law_k"] (defScope Z13):=by walk_at "s"
theorem Z3Q{f:Addr}{fd:FuncData} (F:Fun K "_law_triple" "_law_triple" Z13 f fd) (m:mg "_law_triple" = some (.ref f)) (Z1L:Cal P w K mg base 2 "_law_number" ["_law_cell", "_law_k"] Z0K):Cal P w K mg base 3 "_law_triple" ["_law_cell", "_law_k"] Z0q :=
 .mk F m (F.binds fun _ _ _ _ _ _ us hl=>args2 hl fun _ _=>rfl) (fnT (W:=Z2p) F Z3P Z3o (fun cdv A outer s H E hr =>
  (@js1 _ _ _ (@jret _ _ _ _ (@jtup _ _ _ _ _ (@ja _ _ _ _ _ (@jcallC _ _ _ _ _ _ _ _ _ _ Z1L (hr.mono (by omega)) rfl (@ja _ _ _ _ _ (@jV _ 0 _ _ rfl (by walk_at "v")) (@ja _ _ _ _ _ (@jV _ 1 _ _ rfl (by walk_at "v")) (@ja0 _) (star1 rfl)) (star1 rfl)) (by decide) (star1 rfl) (stars rfl)) (@ja _ _ _ _ _ (@jcallC _ _ _ _ _ _ _ _ _ _ Z1L (hr.mono (by omega)) rfl (@ja _ _ _ _ _ (@jV _ 0 _ _ rfl (by walk_at "v")) (@ja _ _ _ _ _ (@jop _ _ _ _ _ _ _ _ b_add (@jV _ 1 _ _ rfl (by walk_at "v")) (@ji _ _ _ _)) (@ja0 _) (star1 rfl)) (star1 rfl)) (by decide) (star1 rfl) (stars rfl)) (@ja _ _ _ _ _ (@jcallC _ _ _ _ _ _ _ _ _ _ Z1L (hr.mono (by omega)) rfl (@ja _ _ _ _ _ (@jV _ 0 _ _ rfl (by walk_at "v")) (@ja _ _ _ _ _ (@jop _ _ _ _ _ _ _ _ b_add (@jV _ 1 _ _ rfl (by walk_at "v")) (@ji _ _ _ _)) (@ja0 _) (star1 rfl)) (star1 rfl)) (by decide) (star1 rfl) (stars rfl)) (@ja0 _) (star1 rfl)) (star1 rfl)) (star1 rfl)))))) Z3B)
abbrev Z1k:Stmt:=top 35
theorem Z14:FnScope ["_law_one", "_law_other", "_law_a", "_law_b", "_law_c", "_law_d", "_law_e", "_law_f"] ["_law_one", "_law_other"] (defScope Z1k):=by walk_at "s"
theorem Z48{f:Addr}{fd:FuncData} (F:Fun K "_law_cross" "_law_cross" Z1k f fd) (m:mg "_law_cross" = some (.ref f)):Cal P w K mg base 1 "_law_cross" ["_law_one", "_law_other"] Z0W :=
 .mk F m (F.binds fun _ _ _ _ _ _ us hl=>args2 hl fun _ _=>rfl) (fnT (W:=Z2F) F Z14 Z3C (fun cdv A outer s H E hr =>
  (@jsc _ _ _ _ _ (@jasg _ _ _ _ _ _ (@jgt _ _ _ _ _ _ rfl (@jgsc _ _ _ _ _ (@jg _ _ (2) _ Z14.nd rfl (Or.inl rfl) (by walk_at "f")) (@jgsc _ _ _ _ _ (@jg _ _ (3) _ Z14.nd rfl (Or.inl rfl) (by walk_at "f")) (@jgsc _ _ _ _ _ (@jg _ _ (4) _ Z14.nd rfl (Or.inl rfl) (by walk_at "f")) (@jgs0 _) (by rfl)) (by rfl)) (by rfl)) (by rfl) (by rfl)) (@jV _ 0 _ _ rfl (by walk_at "v")) (by rfl) (by rfl) (by rfl)) (@jsc _ _ _ _ _ (@jasg _ _ _ _ _ _ (@jgt _ _ _ _ _ _ rfl (@jgsc _ _ _ _ _ (@jg _ _ (5) _ Z14.nd rfl (Or.inl rfl) (by walk_at "f")) (@jgsc _ _ _ _ _ (@jg _ _ (6) _ Z14.nd rfl (Or.inl rfl) (by walk_at "f")) (@jgsc _ _ _ _ _ (@jg _ _ (7) _ Z14.nd rfl (Or.inl rfl) (by walk_at "f")) (@jgs0 _) (by rfl)) (by rfl)) (by rfl)) (by rfl) (by rfl)) (@jV _ 1 _ _ rfl (by walk_at "v")) (by rfl) (by rfl) (by rfl)) (@js1 _ _ _ (@jret _ _ _ _ (@jtup _ _ _ _ _ (@ja _ _ _ _ _ (@jop _ _ _ _ _ _ _ _ b_sub (@jop _ _ _ _ _ _ _ _ b_mul (@jV _ 3 _ _ rfl (by walk_at "v")) (@jV _ 7 _ _ rfl (by walk_at "v"))) (@jop _ _ _ _ _ _ _ _ b_mul (@jV _ 4 _ _ rfl (by walk_at "v")) (@jV _ 6 _ _ rfl (by walk_at "v")))) (@ja _ _ _ _ _ (@jop _ _ _ _ _ _ _ _ b_sub (@jop _ _ _ _ _ _ _ _ b_mul (@jV _ 4 _ _ rfl (by walk_at "v")) (@jV _ 5 _ _ rfl (by walk_at "v"))) (@jop _ _ _ _ _ _ _ _ b_mul (@jV _ 2 _ _ rfl (by walk_at "v")) (@jV _ 7 _ _ rfl (by walk_at "v")))) (@ja _ _ _ _ _ (@jop _ _ _ _ _ _ _ _ b_sub (@jop _ _ _ _ _ _ _ _ b_mul (@jV _ 2 _ _ rfl (by walk_at "v")) (@jV _ 6 _ _ rfl (by walk_at "v"))) (@jop _ _ _ _ _ _ _ _ b_mul (@jV _ 3 _ _ rfl (by walk_at "v")) (@jV _ 5 _ _ rfl (by walk_at "v")))) (@ja0 _) (star1 rfl)) (star1 rfl)) (star1 rfl)))))))) Z3W)
abbrev Z1l:Stmt:=top 37
theorem Z1m:FnScope ["_law_cell", "_law_k", "_law_side", "_law_other", "_law_unit"] ["_law_cell", "_law_k"] (defScope Z1l):=by walk_at "s"
theorem Z49{f:Addr}{fd:FuncData} (F:Fun K "_law_plate" "_law_plate" Z1l f fd) (m:mg "_law_plate" = some (.ref f)) (Z0O:Cal P w K mg base 3 "_law_triple" ["_law_cell", "_law_k"] Z0q) (Z1M:Cal P w K mg base 1 "_law_cross" ["_law_one", "_law_other"] Z0W):Cal P w K mg base 4 "_law_plate" ["_law_cell", "_law_k"] Z1E :=
 .mk F m (F.binds fun _ _ _ _ _ _ us hl=>args2 hl fun _ _=>rfl) (fnT (W:=Z2G) F Z1m Z3E (fun cdv A outer s H E hr =>
  (@jsc _ _ _ _ _ (@jset _ _ _ _ (2) _ _ Z1m.nd rfl (Or.inl rfl) (@jcallC _ _ _ _ _ _ _ _ _ _ Z0O (hr.mono (by omega)) rfl (@ja _ _ _ _ _ (@jV _ 0 _ _ rfl (by walk_at "v")) (@ja _ _ _ _ _ (@jop _ _ _ _ _ _ _ _ b_add (@jV _ 1 _ _ rfl (by walk_at "v")) (@ji _ _ _ _)) (@ja0 _) (star1 rfl)) (star1 rfl)) (by decide) (star1 rfl) (stars rfl)) (by rfl) (by walk_at "f")) (@jsc _ _ _ _ _ (@jsif _ _ _ _ _ _ _ _ (@tcmp _ _ _ _ _ _ _ _ (c_eq hr) (@jV _ 2 _ _ rfl (by walk_at "v")) (@jtup _ _ _ _ _ (@ja _ _ _ _ _ (@ji _ _ _ _) (@ja _ _ _ _ _ (@ji _ _ _ _) (@ja _ _ _ _ _ (@ji _ _ _ _) (@ja0 _) (star1 rfl)) (star1 rfl)) (star1 rfl))) (nomark _)) (@js1 _ _ _ (@jset _ _ _ _ (2) _ _ Z1m.nd rfl (Or.inl rfl) (@jtup _ _ _ _ _ (@ja _ _ _ _ _ (@ji _ _ _ _) (@ja _ _ _ _ _ (@ji _ _ _ _) (@ja _ _ _ _ _ (@ji _ _ _ _) (@ja0 _) (star1 rfl)) (star1 rfl)) (star1 rfl))) (by rfl) (by walk_at "f"))) (@js0 _)) (@jsc _ _ _ _ _ (@jset _ _ _ _ (3) _ _ Z1m.nd rfl (Or.inl rfl) (@jcallC _ _ _ _ _ _ _ _ _ _ Z0O (hr.mono (by omega)) rfl (@ja _ _ _ _ _ (@jV _ 0 _ _ rfl (by walk_at "v")) (@ja _ _ _ _ _ (@jop _ _ _ _ _ _ _ _ b_add (@jV _ 1 _ _ rfl (by walk_at "v")) (@ji _ _ _ _)) (@ja0 _) (star1 rfl)) (star1 rfl)) (by decide) (star1 rfl) (stars rfl)) (by rfl) (by walk_at "f")) (@jsc _ _ _ _ _ (@jfor _ _ _ _ _ _ _ _ PassesOwn.never rfl (@jiSeq _ _ _ _ (@jlst _ _ _ _ (@ja _ _ _ _ _ (@jtup _ _ _ _ _ (@ja _ _ _ _ _ (@ji _ _ _ _) (@ja _ _ _ _ _ (@ji _ _ _ _) (@ja _ _ _ _ _ (@ji _ _ _ _) (@ja0 _) (star1 rfl)) (star1 rfl)) (star1 rfl))) (@ja _ _ _ _ _ (@jtup _ _ _ _ _ (@ja _ _ _ _ _ (@ji _ _ _ _) (@ja _ _ _ _ _ (@ji _ _ _ _) (@ja _ _ _ _ _ (@ji _ _ _ _) (@ja0 _) (star1 rfl)) (star1 rfl)) (star1 rfl))) (@ja _ _ _ _ _ (@jtup _ _ _ _ _ (@ja _ _ _ _ _ (@ji _ _ _ _) (@ja _ _ _ _ _ (@ji _ _ _ _) (@ja _ _ _ _ _ (@ji _ _ _ _) (@ja0 _) (star1 rfl)) (star1 rfl)) (star1 rfl))) (@ja0 _) (star1 rfl)) (star1 rfl)) (star1 rfl)))) (@jg _ _ (4) _ Z1m.nd rfl (Or.inl rfl) (by walk_at "f")) (@js1 _ _ _ (@jsif _ _ _ _ _ _ _ _ (@tcmp _ _ _ _ _ _ _ _ (c_eq hr) (@jcallC _ _ _ _ _ _ _ _ _ _ Z1M (hr.mono (by omega)) rfl (@ja _ _ _ _ _ (@jV _ 2 _ _ rfl (by walk_at "v")) (@ja _ _ _ _ _ (@jV _ 3 _ _ rfl (by walk_at "v")) (@ja0 _) (star1 rfl)) (star1 rfl)) (by decide) (star1 rfl) (stars rfl)) (@jtup _ _ _ _ _ (@ja _ _ _ _ _ (@ji _ _ _ _) (@ja _ _ _ _ _ (@ji _ _ _ _) (@ja _ _ _ _ _ (@ji _ _ _ _) (@ja0 _) (star1 rfl)) (star1 rfl)) (star1 rfl))) (nomark _)) (@js1 _ _ _ (@jset _ _ _ _ (3) _ _ Z1m.nd rfl (Or.inl rfl) (@jV _ 4 _ _ rfl (by walk_at "v")) (by rfl) (by walk_at "f"))) (@js0 _))) (fun _=>rfl)) (@js1 _ _ _ (@jret _ _ _ _ (@jtup _ _ _ _ _ (@ja _ _ _ _ _ (@jcallC _ _ _ _ _ _ _ _ _ _ Z0O (hr.mono (by omega)) rfl (@ja _ _ _ _ _ (@jV _ 0 _ _ rfl (by walk_at "v")) (@ja _ _ _ _ _ (@jV _ 1 _ _ rfl (by walk_at "v")) (@ja0 _) (star1 rfl)) (star1 rfl)) (by decide) (star1 rfl) (stars rfl)) (@ja _ _ _ _ _ (@jV _ 2 _ _ rfl (by walk_at "v")) (@ja _ _ _ _ _ (@jV _ 3 _ _ rfl (by walk_at "v")) (@ja0 _) (star1 rfl)) (star1 rfl)) (star1 rfl)))))))))) Z3X)
abbrev Z23:Stmt:=top 36
theorem Z4u:FnScope ["_law_one", "_law_other"] ["_law_one", "_law_other"] (defScope Z23):=by walk_at "s"
theorem Z4v{f:Addr}{fd:FuncData} (F:Fun K "_law_dot" "_law_dot" Z23 f fd) (m:mg "_law_dot" = some (.ref f)):Cal P w K mg base 1 "_law_dot" ["_law_one", "_law_other"] Z1S :=
 .mk F m (F.binds fun _ _ _ _ _ _ us hl=>args2 hl fun _ _=>rfl) (fnT (W:=Z3D) F Z4u Z4g (fun cdv A outer s H E hr =>
  (@js1 _ _ _ (@jret _ _ _ _ (@jop _ _ _ _ _ _ _ _ b_add (@jop _ _ _ _ _ _ _ _ b_add (@jop _ _ _ _ _ _ _ _ b_mul (@jix _ _ _ _ _ _ (@jV _ 0 _ _ rfl (by walk_at "v")) (@ji _ _ _ _) (fun _ _=>rfl)) (@jix _ _ _ _ _ _ (@jV _ 1 _ _ rfl (by walk_at "v")) (@ji _ _ _ _) (fun _ _=>rfl))) (@jop _ _ _ _ _ _ _ _ b_mul (@jix _ _ _ _ _ _ (@jV _ 0 _ _ rfl (by walk_at "v")) (@ji _ _ _ _) (fun _ _=>rfl)) (@jix _ _ _ _ _ _ (@jV _ 1 _ _ rfl (by walk_at "v")) (@ji _ _ _ _) (fun _ _=>rfl)))) (@jop _ _ _ _ _ _ _ _ b_mul (@jix _ _ _ _ _ _ (@jV _ 0 _ _ rfl (by walk_at "v")) (@ji _ _ _ _) (fun _ _=>rfl)) (@jix _ _ _ _ _ _ (@jV _ 1 _ _ rfl (by walk_at "v")) (@ji _ _ _ _) (fun _ _=>rfl))))))) Z4q)
abbrev Z15:Stmt:=top 38
theorem Z1N:FnScope ["_law_front", "_law_found", "_law_unit", "_law_sign"] ["_law_front", "_law_found"] (defScope Z15):=by walk_at "s"
theorem Z4a{f:Addr}{fd:FuncData} (F:Fun K "_law_ahead" "_law_ahead" Z15 f fd) (m:mg "_law_ahead" = some (.ref f)) (Z2R:Cal P w K mg base 1 "_law_dot" ["_law_one", "_law_other"] Z1S) (z_int:mg "int" = none) (z_zip:mg "zip" = none) (z_tuple:mg "tuple" = none):Cal P w K mg base 2 "_law_ahead" ["_law_front", "_law_found"] Z1F :=
 .mk F m (F.binds fun _ _ _ _ _ _ us hl=>args2 hl fun _ _=>rfl) (fnT (W:=Z2H) F Z1N Z3F (fun cdv A outer s H E hr =>
  (@jsc _ _ _ _ _ (@jsif _ _ _ _ _ _ _ _ (@tcmp _ _ _ _ _ _ _ _ c_lt (@jcallC _ _ _ _ _ _ _ _ _ _ Z2R (hr.mono (by omega)) rfl (@ja _ _ _ _ _ (@jV _ 0 _ _ rfl (by walk_at "v")) (@ja _ _ _ _ _ (@jV _ 1 _ _ rfl (by walk_at "v")) (@ja0 _) (star1 rfl)) (star1 rfl)) (by decide) (star1 rfl) (stars rfl)) (@ji _ _ _ _) (nomark _)) (@js1 _ _ _ (@jset _ _ _ _ (1) _ _ Z1N.nd rfl (Or.inl rfl) (@jtup _ _ _ _ _ (@ja _ _ _ _ _ (@jop _ _ _ _ _ _ _ _ b_sub (@ji _ _ _ _) (@jix _ _ _ _ _ _ (@jV _ 1 _ _ rfl (by walk_at "v")) (@ji _ _ _ _) (fun _ _=>rfl))) (@ja _ _ _ _ _ (@jop _ _ _ _ _ _ _ _ b_sub (@ji _ _ _ _) (@jix _ _ _ _ _ _ (@jV _ 1 _ _ rfl (by walk_at "v")) (@ji _ _ _ _) (fun _ _=>rfl))) (@ja _ _ _ _ _ (@jop _ _ _ _ _ _ _ _ b_sub (@ji _ _ _ _) (@jix _ _ _ _ _ _ (@jV _ 1 _ _ rfl (by walk_at "v")) (@ji _ _ _ _) (fun _ _=>rfl))) (@ja0 _) (star1 rfl)) (star1 rfl)) (star1 rfl))) (by rfl) (by walk_at "f"))) (@js0 _)) (@jsc _ _ _ _ _ (@jfor _ _ _ _ _ _ _ _ PassesOwn.never rfl (@jiSeq _ _ _ _ (@jlst _ _ _ _ (@ja _ _ _ _ _ (@jtup _ _ _ _ _ (@ja _ _ _ _ _ (@ji _ _ _ _) (@ja _ _ _ _ _ (@ji _ _ _ _) (@ja _ _ _ _ _ (@ji _ _ _ _) (@ja0 _) (star1 rfl)) (star1 rfl)) (star1 rfl))) (@ja _ _ _ _ _ (@jtup _ _ _ _ _ (@ja _ _ _ _ _ (@ji _ _ _ _) (@ja _ _ _ _ _ (@ji _ _ _ _) (@ja _ _ _ _ _ (@ji _ _ _ _) (@ja0 _) (star1 rfl)) (star1 rfl)) (star1 rfl))) (@ja _ _ _ _ _ (@jtup _ _ _ _ _ (@ja _ _ _ _ _ (@ji _ _ _ _) (@ja _ _ _ _ _ (@ji _ _ _ _) (@ja _ _ _ _ _ (@ji _ _ _ _) (@ja0 _) (star1 rfl)) (star1 rfl)) (star1 rfl))) (@ja0 _) (star1 rfl)) (star1 rfl)) (star1 rfl)))) (@jg _ _ (2) _ Z1N.nd rfl (Or.inl rfl) (by walk_at "f")) (@js1 _ _ _ (@jsif _ _ _ _ _ _ _ _ (@tcmp _ _ _ _ _ _ _ _ (c_eq hr) (@jcallC _ _ _ _ _ _ _ _ _ _ Z2R (hr.mono (by omega)) rfl (@ja _ _ _ _ _ (@jV _ 0 _ _ rfl (by walk_at "v")) (@ja _ _ _ _ _ (@jV _ 1 _ _ rfl (by walk_at "v")) (@ja0 _) (star1 rfl)) (star1 rfl)) (by decide) (star1 rfl) (stars rfl)) (@ji _ _ _ _) (nomark _)) (@jsc _ _ _ _ _ (@jset _ _ _ _ (3) _ _ Z1N.nd rfl (Or.inr rfl) (@jix _ _ _ _ _ _ (@jlst _ _ _ _ (@ja _ _ _ _ _ (@ji _ _ _ _) (@ja _ _ _ _ _ (@jneg _ _ _ _ (@ji _ _ _ _)) (@ja0 _) (star1 rfl)) (star1 rfl))) (@jty _ _ _ _ _ _ _ _ _ ty_int rfl z_int boot_int (@ja _ _ _ _ _ (@jcmp _ _ _ _ _ _ _ _ c_lt (@jcallC _ _ _ _ _ _ _ _ _ _ Z2R (hr.mono (by omega)) rfl (@ja _ _ _ _ _ (@jV _ 0 _ _ rfl (by walk_at "v")) (@ja _ _ _ _ _ (@jV _ 2 _ _ rfl (by walk_at "v")) (@ja0 _) (star1 rfl)) (star1 rfl)) (by decide) (star1 rfl) (stars rfl)) (@ji _ _ _ _) (nomark _)) (@ja0 _) (star1 rfl)) (by decide) (by decide) (star1 rfl) (stars rfl)) (fun _ _=>rfl)) (by rfl) (by walk_at "f")) (@js1 _ _ _ (@jset _ _ _ _ (1) _ _ Z1N.nd rfl (Or.inl rfl) (@jty _ _ _ _ _ _ _ _ _ ty_tuple rfl z_tuple boot_tuple (@ja _ _ _ _ _ (@jcomp _ _ _ _ _ _ _ (defScope Z15) (["_law_one" , "_law_more"]) (["_law_front" , "_law_found" , "_law_unit" , "_law_sign"]) ([("_law_sign" , 3)]) _ _ _ _ rfl rfl rfl (@jiZip _ _ _ _ _ _ _ _ _ rfl z_zip (@ja _ _ _ _ _ (@jV _ 1 _ _ rfl (by walk_at "v")) (@ja _ _ _ _ _ (@jV _ 2 _ _ rfl (by walk_at "v")) (@ja0 _) (star1 rfl)) (star1 rfl)) (star1 rfl) (stars rfl)) rfl rfl (by decide +kernel) (by decide +kernel) (by decide +kernel) (by decide +kernel) (fun cl C s3 H2 ex=>(@jgt _ _ _ _ _ _ rfl (@jgsc _ _ _ _ _ (@jg _ _ (0) _ (show List.Nodup (["_law_one" , "_law_more" , "_law_sign"]:List Str) from by decide +kernel) rfl (Or.inl rfl) (by walk_at "f")) (@jgsc _ _ _ _ _ (@jg _ _ (1) _ (show List.Nodup (["_law_one" , "_law_more" , "_law_sign"]:List Str) from by decide +kernel) rfl (Or.inl rfl) (by walk_at "f")) (@jgs0 _) (by rfl)) (by rfl)) (by rfl) (by rfl))) (fun cl C s3 H2 ex=>(@jts0 _)) (fun cl C s3 H2 ex=>(@jop _ _ _ _ _ _ _ _ b_add (@jV _ 0 _ _ rfl (by walk_at "v")) (@jop _ _ _ _ _ _ _ _ b_mul (@jV _ 2 _ _ rfl (by walk_at "v")) (@jV _ 1 _ _ rfl (by walk_at "v"))))) (fun _=>rfl)) (@ja0 _) (star1 rfl)) (by decide) (by decide) (star1 rfl) (stars rfl)) (by rfl) (by walk_at "f")))) (@js0 _))) (fun _=>rfl)) (@js1 _ _ _ (@jret _ _ _ _ (@jV _ 1 _ _ rfl (by walk_at "v"))))))) Z3Y)
abbrev Z1A:Stmt:=top 39
theorem Z3i:FnScope ["_law_plate_here", "_law_cell", "_law_front", "_law_near"] ["_law_plate_here", "_law_cell"] (defScope Z1A):=by walk_at "s"
theorem Z4w{f:Addr}{fd:FuncData} (F:Fun K "_law_tip" "_law_tip" Z1A f fd) (m:mg "_law_tip" = some (.ref f)) (Z1M:Cal P w K mg base 1 "_law_cross" ["_law_one", "_law_other"] Z0W) (Z03:Cal P w K mg base 1 "_law_draw" ["_law_cell", "_law_k", "_law_many"] Z00) (Z2S:Cal P w K mg base 2 "_law_ahead" ["_law_front", "_law_found"] Z1F) (z_range:mg "range" = none) (z_tuple:mg "tuple" = none) (z_zip:mg "zip" = none):Cal P w K mg base 3 "_law_tip" ["_law_plate_here", "_law_cell"] Z2h :=
 .mk F m (F.binds fun _ _ _ _ _ _ us hl=>args2 hl fun _ _=>rfl) (fnT (W:=Z3G) F Z3i Z4h (fun cdv A outer s H E hr =>
  (@jsc _ _ _ _ _ (@jset _ _ _ _ (2) _ _ Z3i.nd rfl (Or.inl rfl) (@jcallC _ _ _ _ _ _ _ _ _ _ Z1M (hr.mono (by omega)) rfl (@ja _ _ _ _ _ (@jix _ _ _ _ _ _ (@jV _ 0 _ _ rfl (by walk_at "v")) (@ji _ _ _ _) (fun _ _=>rfl)) (@ja _ _ _ _ _ (@jix _ _ _ _ _ _ (@jV _ 0 _ _ rfl (by walk_at "v")) (@ji _ _ _ _) (fun _ _=>rfl)) (@ja0 _) (star1 rfl)) (star1 rfl)) (by decide) (star1 rfl) (stars rfl)) (by rfl) (by walk_at "f")) (@jsc _ _ _ _ _ (@jset _ _ _ _ (3) _ _ Z3i.nd rfl (Or.inl rfl) (@jcallC _ _ _ _ _ _ _ _ _ _ Z2S (hr.mono (by omega)) rfl (@ja _ _ _ _ _ (@jV _ 2 _ _ rfl (by walk_at "v")) (@ja _ _ _ _ _ (@jty _ _ _ _ _ _ _ _ _ ty_tuple rfl z_tuple boot_tuple (@ja _ _ _ _ _ (@jcomp _ _ _ _ _ _ _ (defScope Z1A) (["_law_k"]) (["_law_plate_here" , "_law_cell" , "_law_front" , "_law_near"]) ([("_law_cell" , 1)]) _ _ _ _ rfl rfl rfl (@jiRange1 _ _ _ _ _ _ rfl z_range (@ja _ _ _ _ _ (@ji _ _ _ _) (@ja0 _) (star1 rfl)) (by rfl)) rfl rfl (by decide +kernel) (by decide +kernel) (by decide +kernel) (by decide +kernel) (fun cl C s3 H2 ex=>(@jg _ _ (0) _ (show List.Nodup (["_law_k" , "_law_cell"]:List Str) from by decide +kernel) rfl (Or.inl rfl) (by walk_at "f"))) (fun cl C s3 H2 ex=>(@jts0 _)) (fun cl C s3 H2 ex=>(@jop _ _ _ _ _ _ _ _ b_sub (@jcallC _ _ _ _ _ _ _ _ _ _ Z03 (hr.mono (by omega)) rfl (@ja _ _ _ _ _ (@jV _ 1 _ _ rfl (by walk_at "v")) (@ja _ _ _ _ _ (@jop _ _ _ _ _ _ _ _ b_add (@ji _ _ _ _) (@jV _ 0 _ _ rfl (by walk_at "v"))) (@ja _ _ _ _ _ (@ji _ _ _ _) (@ja0 _) (star1 rfl)) (star1 rfl)) (star1 rfl)) (by decide) (star1 rfl) (stars rfl)) (@ji _ _ _ _))) (fun _=>rfl)) (@ja0 _) (star1 rfl)) (by decide) (by decide) (star1 rfl) (stars rfl)) (@ja0 _) (star1 rfl)) (star1 rfl)) (by decide) (star1 rfl) (stars rfl)) (by rfl) (by walk_at "f")) (@js1 _ _ _ (@jret _ _ _ _ (@jty _ _ _ _ _ _ _ _ _ ty_tuple rfl z_tuple boot_tuple (@ja _ _ _ _ _ (@jcomp _ _ _ _ _ _ _ (defScope Z1A) (["_law_one" , "_law_more"]) (["_law_plate_here" , "_law_cell" , "_law_front" , "_law_near"]) ([]) _ _ _ _ rfl rfl rfl (@jiZip _ _ _ _ _ _ _ _ _ rfl z_zip (@ja _ _ _ _ _ (@jix _ _ _ _ _ _ (@jV _ 0 _ _ rfl (by walk_at "v")) (@ji _ _ _ _) (fun _ _=>rfl)) (@ja _ _ _ _ _ (@jV _ 3 _ _ rfl (by walk_at "v")) (@ja0 _) (star1 rfl)) (star1 rfl)) (star1 rfl) (stars rfl)) rfl rfl (by decide +kernel) (by decide +kernel) (by decide +kernel) (by decide +kernel) (fun cl C s3 H2 ex=>(@jgt _ _ _ _ _ _ rfl (@jgsc _ _ _ _ _ (@jg _ _ (0) _ (show List.Nodup (["_law_one" , "_law_more"]:List Str) from by decide +kernel) rfl (Or.inl rfl) (by walk_at "f")) (@jgsc _ _ _ _ _ (@jg _ _ (1) _ (show List.Nodup (["_law_one" , "_law_more"]:List Str) from by decide +kernel) rfl (Or.inl rfl) (by walk_at "f")) (@jgs0 _) (by rfl)) (by rfl)) (by rfl) (by rfl))) (fun cl C s3 H2 ex=>(@jts0 _)) (fun cl C s3 H2 ex=>(@jop _ _ _ _ _ _ _ _ b_add (@jV _ 0 _ _ rfl (by walk_at "v")) (@jV _ 1 _ _ rfl (by walk_at "v")))) (fun _=>rfl)) (@ja0 _) (star1 rfl)) (by decide) (by decide) (star1 rfl) (stars rfl))))))) Z4r)
abbrev Z24:Stmt:=top 41
theorem Z1i:FnScope ["_law_cells", "_law_many", "_law_sun_here", "_law_hour", "_law_k", "_law_cell", "_law_direction"] ["_law_cells", "_law_many"] (defScope Z24):=by walk_at "s"
theorem Z4x{f:Addr}{fd:FuncData} (F:Fun K "_law_sun" "_law_sun" Z24 f fd) (m:mg "_law_sun" = some (.ref f)) (Z03:Cal P w K mg base 1 "_law_draw" ["_law_cell", "_law_k", "_law_many"] Z00) (Z0O:Cal P w K mg base 3 "_law_triple" ["_law_cell", "_law_k"] Z0q) (z_range:mg "range" = none) (z_len:mg "len" = none):Cal P w K mg base 4 "_law_sun" ["_law_cells", "_law_many"] Z20 :=
 .mk F m (F.binds fun _ _ _ _ _ _ us hl=>args2 hl fun _ _=>rfl) (fnT (W:=Z3I) F Z1i Z4i (fun cdv A outer s H E hr =>
  (@jsc _ _ _ _ _ (@jown _ _ _ _ (2) _ _ _ Z1i.nd rfl (Or.inl rfl) (@ja0 _) (by rfl) (by walk_at "f")) (@jsc _ _ _ _ _ (@jset _ _ _ _ (3) _ _ Z1i.nd rfl (Or.inl rfl) (@jcallC _ _ _ _ _ _ _ _ _ _ Z03 (hr.mono (by omega)) rfl (@ja _ _ _ _ _ (@jix _ _ _ _ _ _ (@jV _ 0 _ _ rfl (by walk_at "v")) (@ji _ _ _ _) (fun _ _=>rfl)) (@ja _ _ _ _ _ (@ji _ _ _ _) (@ja _ _ _ _ _ (@ji _ _ _ _) (@ja0 _) (star1 rfl)) (star1 rfl)) (star1 rfl)) (by decide) (star1 rfl) (stars rfl)) (by rfl) (by walk_at "f")) (@jsc _ _ _ _ _ (@jfor _ _ _ _ _ _ _ _ PassesOwn.never rfl (@jiRange1 _ _ _ _ _ _ rfl z_range (@ja _ _ _ _ _ (@jV _ 1 _ _ rfl (by walk_at "v")) (@ja0 _) (star1 rfl)) (by rfl)) (@jg _ _ (4) _ Z1i.nd rfl (Or.inl rfl) (by walk_at "f")) (@jsc _ _ _ _ _ (@jset _ _ _ _ (5) _ _ Z1i.nd rfl (Or.inl rfl) (@jop _ _ _ _ _ _ _ _ b_add (@jix _ _ _ _ _ _ (@jV _ 0 _ _ rfl (by walk_at "v")) (@jop _ _ _ _ _ _ _ _ b_mod (@jV _ 4 _ _ rfl (by walk_at "v")) (@jblt _ _ _ _ _ _ _ _ _ bl_len rfl z_len boot_len (@ja _ _ _ _ _ (@jV _ 0 _ _ rfl (by walk_at "v")) (@ja0 _) (star1 rfl)) (by decide) (by decide) (star1 rfl) (stars rfl))) (fun _ _=>rfl)) (@jop _ _ _ _ _ _ _ _ b_mul (@ji _ _ _ _) (@jV _ 4 _ _ rfl (by walk_at "v")))) (by rfl) (by walk_at "f")) (@jsc _ _ _ _ _ (@jset _ _ _ _ (6) _ _ Z1i.nd rfl (Or.inl rfl) (@jcallC _ _ _ _ _ _ _ _ _ _ Z0O (hr.mono (by omega)) rfl (@ja _ _ _ _ _ (@jV _ 5 _ _ rfl (by walk_at "v")) (@ja _ _ _ _ _ (@ji _ _ _ _) (@ja0 _) (star1 rfl)) (star1 rfl)) (by decide) (star1 rfl) (stars rfl)) (by rfl) (by walk_at "f")) (@jsc _ _ _ _ _ (@jsif _ _ _ _ _ _ _ _ (@tcmp _ _ _ _ _ _ _ _ (c_eq hr) (@jcallC _ _ _ _ _ _ _ _ _ _ Z03 (hr.mono (by omega)) rfl (@ja _ _ _ _ _ (@jV _ 5 _ _ rfl (by walk_at "v")) (@ja _ _ _ _ _ (@ji _ _ _ _) (@ja _ _ _ _ _ (@ji _ _ _ _) (@ja0 _) (star1 rfl)) (star1 rfl)) (star1 rfl)) (by decide) (star1 rfl) (stars rfl)) (@ji _ _ _ _) (nomark _)) (@js1 _ _ _ (@jset _ _ _ _ (6) _ _ Z1i.nd rfl (Or.inl rfl) (@jtup _ _ _ _ _ (@ja _ _ _ _ _ (@jop _ _ _ _ _ _ _ _ b_pow (@ji _ _ _ _) (@ji _ _ _ _)) (@ja _ _ _ _ _ (@jop _ _ _ _ _ _ _ _ b_sub (@ji _ _ _ _) (@jop _ _ _ _ _ _ _ _ b_pow (@ji _ _ _ _) (@ji _ _ _ _))) (@ja _ _ _ _ _ (@jix _ _ _ _ _ _ (@jV _ 6 _ _ rfl (by walk_at "v")) (@ji _ _ _ _) (fun _ _=>rfl)) (@ja0 _) (star1 rfl)) (star1 rfl)) (star1 rfl))) (by rfl) (by walk_at "f"))) (@js0 _)) (@jsc _ _ _ _ _ (@jsif _ _ _ _ _ _ _ _ (@tcmp _ _ _ _ _ _ _ _ (c_eq hr) (@jV _ 6 _ _ rfl (by walk_at "v")) (@jtup _ _ _ _ _ (@ja _ _ _ _ _ (@ji _ _ _ _) (@ja _ _ _ _ _ (@ji _ _ _ _) (@ja _ _ _ _ _ (@ji _ _ _ _) (@ja0 _) (star1 rfl)) (star1 rfl)) (star1 rfl))) (nomark _)) (@js1 _ _ _ (@jset _ _ _ _ (6) _ _ Z1i.nd rfl (Or.inl rfl) (@jtup _ _ _ _ _ (@ja _ _ _ _ _ (@ji _ _ _ _) (@ja _ _ _ _ _ (@ji _ _ _ _) (@ja _ _ _ _ _ (@ji _ _ _ _) (@ja0 _) (star1 rfl)) (star1 rfl)) (star1 rfl))) (by rfl) (by walk_at "f"))) (@js0 _)) (@jsc _ _ _ _ _ (@japp _ _ _ _ _ _ _ _ _ (pv 2) (@jtup _ _ _ _ _ (@ja _ _ _ _ _ (@jV _ 3 _ _ rfl (by walk_at "v")) (@ja _ _ _ _ _ (@jV _ 6 _ _ rfl (by walk_at "v")) (@ja0 _) (star1 rfl)) (star1 rfl))) (by rfl) (by rfl) (by rfl) (by rfl) (by rfl) (by rfl)) (@js1 _ _ _ (@jset _ _ _ _ (3) _ _ Z1i.nd rfl (Or.inl rfl) (@jop _ _ _ _ _ _ _ _ b_add (@jop _ _ _ _ _ _ _ _ b_add (@jV _ 3 _ _ rfl (by walk_at "v")) (@ji _ _ _ _)) (@jcallC _ _ _ _ _ _ _ _ _ _ Z03 (hr.mono (by omega)) rfl (@ja _ _ _ _ _ (@jV _ 5 _ _ rfl (by walk_at "v")) (@ja _ _ _ _ _ (@ji _ _ _ _) (@ja _ _ _ _ _ (@ji _ _ _ _) (@ja0 _) (star1 rfl)) (star1 rfl)) (star1 rfl)) (by decide) (star1 rfl) (stars rfl))) (by rfl) (by walk_at "f")))))))) (fun _=>rfl)) (@jfrz _ _ 2 _ (@js1 _ _ _ (@jret _ _ _ _ (@jV _ 2 _ _ rfl (by walk_at "v"))))))))) Z4s)
abbrev Z1u:Stmt:=top 42
theorem Z0v:FnScope ["_law_script", "_law_cell", "_law_cells", "_law_counts", "_law_names_here", "_law_shuts", "_law_dials", "_law_k", "_law_one", "_law_plate_here"] ["_law_script"] (defScope Z1u):=by walk_at "s"
theorem Z4n{f:Addr}{fd:FuncData} (F:Fun K "_law_yard" "_law_yard" Z1u f fd) (m:mg "_law_yard" = some (.ref f)) (Z0y:Cal P w K mg base 1 "_law_cell_at" ["_law_script", "_law_k"] Z0b) (Z03:Cal P w K mg base 1 "_law_draw" ["_law_cell", "_law_k", "_law_many"] Z00) (Z2T:Cal P w K mg base 2 "_law_names" ["_law_cell", "_law_many"] Z1G) (Z2U:Cal P w K mg base 4 "_law_plate" ["_law_cell", "_law_k"] Z1E) (Z3R:Cal P w K mg base 3 "_law_tip" ["_law_plate_here", "_law_cell"] Z2h) (Z3S:Cal P w K mg base 4 "_law_sun" ["_law_cells", "_law_many"] Z20) (z_range:mg "range" = none) (z_len:mg "len" = none):Cal P w K mg base 5 "_law_yard" ["_law_script"] Z1s :=
 .mk F m (F.binds fun _ _ _ _ _ _ us hl=>args1 hl fun _=>rfl) (fnT (W:=Z3b) F Z0v Z40 (fun cdv A outer s H E hr =>
  (@jsc _ _ _ _ _ (@jset _ _ _ _ (1) _ _ Z0v.nd rfl (Or.inr rfl) (@jcallC _ _ _ _ _ _ _ _ _ _ Z0y (hr.mono (by omega)) rfl (@ja _ _ _ _ _ (@jV _ 0 _ _ rfl (by walk_at "v")) (@ja _ _ _ _ _ (@ji _ _ _ _) (@ja0 _) (star1 rfl)) (star1 rfl)) (by decide) (star1 rfl) (stars rfl)) (by rfl) (by walk_at "f")) (@jsc _ _ _ _ _ (@jset _ _ _ _ (2) _ _ Z0v.nd rfl (Or.inl rfl) (@jop _ _ _ _ _ _ _ _ b_cat (@jsl _ _ _ _ _ _ _ _ _ (@jV _ 0 _ _ rfl (by walk_at "v")) (@jo _ _ _ (@ji _ _ _ _)) (@jo _ _ _ (@ji _ _ _ _))) (@jlst _ _ _ _ (@ja _ _ _ _ _ (@jV _ 1 _ _ rfl (by walk_at "v")) (@ja0 _) (star1 rfl)))) (by rfl) (by walk_at "f")) (@jsc _ _ _ _ _ (@jsetc _ _ _ _ _ _ _ (defScope Z1u) (["_law_k"]) (["_law_script" , "_law_cell" , "_law_cells" , "_law_counts" , "_law_names_here" , "_law_shuts" , "_law_dials" , "_law_k" , "_law_one" , "_law_plate_here"]) ([("_law_cell" , 1)]) _ _ _ _ (3) _ _ _ Z0v.nd rfl (Or.inl rfl) rfl rfl rfl (@jiRange1 _ _ _ _ _ _ rfl z_range (@ja _ _ _ _ _ (@ji _ _ _ _) (@ja0 _) (star1 rfl)) (by rfl)) rfl rfl (by decide +kernel) (by decide +kernel) (by decide +kernel) (by decide +kernel) (fun cl C s3 H2 ex=>(@jg _ _ (0) _ (show List.Nodup (["_law_k" , "_law_cell"]:List Str) from by decide +kernel) rfl (Or.inl rfl) (by walk_at "f"))) (fun cl C s3 H2 ex=>(@jts0 _)) (fun cl C s3 H2 ex=>(@jix _ _ _ _ _ _ (@jlst _ _ _ _ (@ja _ _ _ _ _ (@ji _ _ _ _) (@ja _ _ _ _ _ (@ji _ _ _ _) (@ja _ _ _ _ _ (@ji _ _ _ _) (@ja0 _) (star1 rfl)) (star1 rfl)) (star1 rfl))) (@jcallC _ _ _ _ _ _ _ _ _ _ Z03 (hr.mono (by omega)) rfl (@ja _ _ _ _ _ (@jV _ 1 _ _ rfl (by walk_at "v")) (@ja _ _ _ _ _ (@jV _ 0 _ _ rfl (by walk_at "v")) (@ja _ _ _ _ _ (@ji _ _ _ _) (@ja0 _) (star1 rfl)) (star1 rfl)) (star1 rfl)) (by decide) (star1 rfl) (stars rfl)) (fun _ _=>rfl))) (fun _=>rfl) (by rfl) (by walk_at "f")) (@jsc _ _ _ _ _ (@jsif _ _ _ _ _ _ _ _ (@tcmp _ _ _ _ _ _ _ _ (c_eq hr) (@jcallC _ _ _ _ _ _ _ _ _ _ Z03 (hr.mono (by omega)) rfl (@ja _ _ _ _ _ (@jV _ 1 _ _ rfl (by walk_at "v")) (@ja _ _ _ _ _ (@ji _ _ _ _) (@ja _ _ _ _ _ (@ji _ _ _ _) (@ja0 _) (star1 rfl)) (star1 rfl)) (star1 rfl)) (by decide) (star1 rfl) (stars rfl)) (@ji _ _ _ _) (nomark _)) (@js1 _ _ _ (@jset _ _ _ _ (3) _ _ Z0v.nd rfl (Or.inl rfl) (@jlst _ _ _ _ (@ja _ _ _ _ _ (@jcallC _ _ _ _ _ _ _ _ _ _ Z03 (hr.mono (by omega)) rfl (@ja _ _ _ _ _ (@jV _ 1 _ _ rfl (by walk_at "v")) (@ja _ _ _ _ _ (@ji _ _ _ _) (@ja _ _ _ _ _ (@ji _ _ _ _) (@ja0 _) (star1 rfl)) (star1 rfl)) (star1 rfl)) (by decide) (star1 rfl) (stars rfl)) (@ja _ _ _ _ _ (@ji _ _ _ _) (@ja _ _ _ _ _ (@jcallC _ _ _ _ _ _ _ _ _ _ Z03 (hr.mono (by omega)) rfl (@ja _ _ _ _ _ (@jV _ 1 _ _ rfl (by walk_at "v")) (@ja _ _ _ _ _ (@ji _ _ _ _) (@ja _ _ _ _ _ (@ji _ _ _ _) (@ja0 _) (star1 rfl)) (star1 rfl)) (star1 rfl)) (by decide) (star1 rfl) (stars rfl)) (@ja0 _) (star1 rfl)) (star1 rfl)) (star1 rfl))) (by rfl) (by walk_at "f"))) (@js0 _)) (@jsc _ _ _ _ _ (@jsif _ _ _ _ _ _ _ _ (@tcmp _ _ _ _ _ _ _ _ (c_eq hr) (@jcallC _ _ _ _ _ _ _ _ _ _ Z03 (hr.mono (by omega)) rfl (@ja _ _ _ _ _ (@jV _ 1 _ _ rfl (by walk_at "v")) (@ja _ _ _ _ _ (@ji _ _ _ _) (@ja _ _ _ _ _ (@ji _ _ _ _) (@ja0 _) (star1 rfl)) (star1 rfl)) (star1 rfl)) (by decide) (star1 rfl) (stars rfl)) (@ji _ _ _ _) (nomark _)) (@js1 _ _ _ (@jset _ _ _ _ (3) _ _ Z0v.nd rfl (Or.inl rfl) (@jlst _ _ _ _ (@ja _ _ _ _ _ (@jcallC _ _ _ _ _ _ _ _ _ _ Z03 (hr.mono (by omega)) rfl (@ja _ _ _ _ _ (@jV _ 1 _ _ rfl (by walk_at "v")) (@ja _ _ _ _ _ (@ji _ _ _ _) (@ja _ _ _ _ _ (@ji _ _ _ _) (@ja0 _) (star1 rfl)) (star1 rfl)) (star1 rfl)) (by decide) (star1 rfl) (stars rfl)) (@ja _ _ _ _ _ (@jcallC _ _ _ _ _ _ _ _ _ _ Z03 (hr.mono (by omega)) rfl (@ja _ _ _ _ _ (@jV _ 1 _ _ rfl (by walk_at "v")) (@ja _ _ _ _ _ (@ji _ _ _ _) (@ja _ _ _ _ _ (@ji _ _ _ _) (@ja0 _) (star1 rfl)) (star1 rfl)) (star1 rfl)) (by decide) (star1 rfl) (stars rfl)) (@ja _ _ _ _ _ (@ji _ _ _ _) (@ja0 _) (star1 rfl)) (star1 rfl)) (star1 rfl))) (by rfl) (by walk_at "f"))) (@js0 _)) (@jsc _ _ _ _ _ (@jset _ _ _ _ (4) _ _ Z0v.nd rfl (Or.inl rfl) (@jcallC _ _ _ _ _ _ _ _ _ _ Z2T (hr.mono (by omega)) rfl (@ja _ _ _ _ _ (@jcallC _ _ _ _ _ _ _ _ _ _ Z0y (hr.mono (by omega)) rfl (@ja _ _ _ _ _ (@jV _ 0 _ _ rfl (by walk_at "v")) (@ja _ _ _ _ _ (@ji _ _ _ _) (@ja0 _) (star1 rfl)) (star1 rfl)) (by decide) (star1 rfl) (stars rfl)) (@ja _ _ _ _ _ (@jop _ _ _ _ _ _ _ _ b_add (@jix _ _ _ _ _ _ (@jV _ 3 _ _ rfl (by walk_at "v")) (@ji _ _ _ _) (fun _ _=>rfl)) (@jix _ _ _ _ _ _ (@jV _ 3 _ _ rfl (by walk_at "v")) (@ji _ _ _ _) (fun _ _=>rfl))) (@ja0 _) (star1 rfl)) (star1 rfl)) (by decide) (star1 rfl) (stars rfl)) (by rfl) (by walk_at "f")) (@jsc _ _ _ _ _ (@jown _ _ _ _ (5) _ _ _ Z0v.nd rfl (Or.inl rfl) (@ja0 _) (by rfl) (by walk_at "f")) (@jsc _ _ _ _ _ (@jown _ _ _ _ (6) _ _ _ Z0v.nd rfl (Or.inl rfl) (@ja0 _) (by rfl) (by walk_at "f")) (@jsc _ _ _ _ _ (@jfor _ _ _ _ _ _ _ _ PassesOwn.never rfl (@jiRange1 _ _ _ _ _ _ rfl z_range (@ja _ _ _ _ _ (@jop _ _ _ _ _ _ _ _ b_add (@jix _ _ _ _ _ _ (@jV _ 3 _ _ rfl (by walk_at "v")) (@ji _ _ _ _) (fun _ _=>rfl)) (@jix _ _ _ _ _ _ (@jV _ 3 _ _ rfl (by walk_at "v")) (@ji _ _ _ _) (fun _ _=>rfl))) (@ja0 _) (star1 rfl)) (by rfl)) (@jg _ _ (7) _ Z0v.nd rfl (Or.inl rfl) (by walk_at "f")) (@jsc _ _ _ _ _ (@jset _ _ _ _ (8) _ _ Z0v.nd rfl (Or.inl rfl) (@jop _ _ _ _ _ _ _ _ b_add (@jix _ _ _ _ _ _ (@jV _ 2 _ _ rfl (by walk_at "v")) (@jop _ _ _ _ _ _ _ _ b_mod (@jV _ 7 _ _ rfl (by walk_at "v")) (@jblt _ _ _ _ _ _ _ _ _ bl_len rfl z_len boot_len (@ja _ _ _ _ _ (@jV _ 2 _ _ rfl (by walk_at "v")) (@ja0 _) (star1 rfl)) (by decide) (by decide) (star1 rfl) (stars rfl))) (fun _ _=>rfl)) (@jop _ _ _ _ _ _ _ _ b_mul (@ji _ _ _ _) (@jop _ _ _ _ _ _ _ _ b_div (@jV _ 7 _ _ rfl (by walk_at "v")) (@jblt _ _ _ _ _ _ _ _ _ bl_len rfl z_len boot_len (@ja _ _ _ _ _ (@jV _ 2 _ _ rfl (by walk_at "v")) (@ja0 _) (star1 rfl)) (by decide) (by decide) (star1 rfl) (stars rfl))))) (by rfl) (by walk_at "f")) (@jsc _ _ _ _ _ (@jset _ _ _ _ (9) _ _ Z0v.nd rfl (Or.inl rfl) (@jcallC _ _ _ _ _ _ _ _ _ _ Z2U (hr.mono (by omega)) rfl (@ja _ _ _ _ _ (@jV _ 8 _ _ rfl (by walk_at "v")) (@ja _ _ _ _ _ (@ji _ _ _ _) (@ja0 _) (star1 rfl)) (star1 rfl)) (by decide) (star1 rfl) (stars rfl)) (by rfl) (by walk_at "f")) (@js1 _ _ _ (@jsif _ _ _ _ _ _ _ _ (@tcmp _ _ _ _ _ _ _ _ c_lt (@jV _ 7 _ _ rfl (by walk_at "v")) (@jix _ _ _ _ _ _ (@jV _ 3 _ _ rfl (by walk_at "v")) (@ji _ _ _ _) (fun _ _=>rfl)) (nomark _)) (@js1 _ _ _ (@japp _ _ _ _ _ _ _ _ _ (pv 5) (@jtup _ _ _ _ _ (@ja _ _ _ _ _ (@jix _ _ _ _ _ _ (@jV _ 4 _ _ rfl (by walk_at "v")) (@jV _ 7 _ _ rfl (by walk_at "v")) (fun _ _=>rfl)) (@ja _ _ _ _ _ (@jV _ 9 _ _ rfl (by walk_at "v")) (@ja0 _) (star1 rfl)) (star1 rfl))) (by rfl) (by rfl) (by rfl) (by rfl) (by rfl) (by rfl))) (@js1 _ _ _ (@japp _ _ _ _ _ _ _ _ _ (pv 6) (@jtup _ _ _ _ _ (@ja _ _ _ _ _ (@jix _ _ _ _ _ _ (@jV _ 4 _ _ rfl (by walk_at "v")) (@jV _ 7 _ _ rfl (by walk_at "v")) (fun _ _=>rfl)) (@ja _ _ _ _ _ (@jV _ 9 _ _ rfl (by walk_at "v")) (@ja _ _ _ _ _ (@jcallC _ _ _ _ _ _ _ _ _ _ Z3R (hr.mono (by omega)) rfl (@ja _ _ _ _ _ (@jV _ 9 _ _ rfl (by walk_at "v")) (@ja _ _ _ _ _ (@jV _ 8 _ _ rfl (by walk_at "v")) (@ja0 _) (star1 rfl)) (star1 rfl)) (by decide) (star1 rfl) (stars rfl)) (@ja0 _) (star1 rfl)) (star1 rfl)) (star1 rfl))) (by rfl) (by rfl) (by rfl) (by rfl) (by rfl) (by rfl))))))) (fun _=>rfl)) (@jfrz _ _ 6 _ (@jfrz _ _ 5 _ (@js1 _ _ _ (@jret _ _ _ _ (@jtup _ _ _ _ _ (@ja _ _ _ _ _ (@jcallC _ _ _ _ _ _ _ _ _ _ Z3S (hr.mono (by omega)) rfl (@ja _ _ _ _ _ (@jV _ 2 _ _ rfl (by walk_at "v")) (@ja _ _ _ _ _ (@jop _ _ _ _ _ _ _ _ b_add (@ji _ _ _ _) (@jix _ _ _ _ _ _ (@jV _ 3 _ _ rfl (by walk_at "v")) (@ji _ _ _ _) (fun _ _=>rfl))) (@ja0 _) (star1 rfl)) (star1 rfl)) (by decide) (star1 rfl) (stars rfl)) (@ja _ _ _ _ _ (@jV _ 5 _ _ rfl (by walk_at "v")) (@ja _ _ _ _ _ (@jV _ 6 _ _ rfl (by walk_at "v")) (@ja0 _) (star1 rfl)) (star1 rfl)) (star1 rfl))))))))))))))))) Z4j)
abbrev Z1n:Stmt:=top 47
theorem Z36:FnScope ["_law_yard_here", "_law_found", "_law_one", "_law_k"] ["_law_yard_here"] (defScope Z1n):=by walk_at "s"
theorem Z4b{f:Addr}{fd:FuncData} (F:Fun K "_law_edges" "_law_edges" Z1n f fd) (m:mg "_law_edges" = some (.ref f)) (z_range:mg "range" = none) (z_len:mg "len" = none):Cal P w K mg base 1 "_law_edges" ["_law_yard_here"] Z1H :=
 .mk F m (F.binds fun _ _ _ _ _ _ us hl=>args1 hl fun _=>rfl) (fnT (W:=Z2N) F Z36 Z3L (fun cdv A outer s H E hr =>
  (@jedges _ _ _ _ _ _ (1) (2) (3) _ _ _ _ _ _ _ _ _ _ _ _ _ _ _ _ _ _ _ _ _ _ _ _ _ _ _ _ _ _ _ _ _ _ _ _ _ _ _ (by decide) PassesOwn.never rfl Z36.nd rfl (Or.inl rfl) rfl (Or.inl rfl) rfl (Or.inl rfl) (@jiSeq _ _ _ _ (@jop _ _ _ _ _ _ _ _ b_cat (@jix _ _ _ _ _ _ (@jV _ 0 _ _ rfl (by walk_at "v")) (@ji _ _ _ _) (fun _ _=>rfl)) (@jix _ _ _ _ _ _ (@jV _ 0 _ _ rfl (by walk_at "v")) (@ji _ _ _ _) (fun _ _=>rfl)))) (@jiRange1 _ _ _ _ _ _ rfl z_range (@ja _ _ _ _ _ (@ji _ _ _ _) (@ja0 _) (star1 rfl)) (by rfl)) (pv 1) (pv 3) (@jix _ _ _ _ _ _ (@jix _ _ _ _ _ _ (@jix _ _ _ _ _ _ (@jV _ 2 _ _ rfl (by walk_at "v")) (@ji _ _ _ _) (fun _ _=>rfl)) (@ji _ _ _ _) (fun _ _=>rfl)) (@jV _ 3 _ _ rfl (by walk_at "v")) (fun _ _=>rfl)) (@tcmp _ _ _ _ _ _ _ _ c_gt (@jblt _ _ _ _ _ _ _ _ _ bl_len rfl z_len boot_len (@ja _ _ _ _ _ (@jV _ 2 _ _ rfl (by walk_at "v")) (@ja0 _) (star1 rfl)) (by decide) (by decide) (star1 rfl) (stars rfl)) (@ji _ _ _ _) (nomark _)) (pv 1) (pv 3) (@jix _ _ _ _ _ _ (@jix _ _ _ _ _ _ (@jV _ 2 _ _ rfl (by walk_at "v")) (@ji _ _ _ _) (fun _ _=>rfl)) (@jV _ 3 _ _ rfl (by walk_at "v")) (fun _ _=>rfl)) (pv 1) (by walk_at "f") (by walk_at "f") (by walk_at "f") (by rfl) (star1 rfl) (star1 rfl) (star1 rfl) (star1 rfl) (star1 rfl) (star1 rfl) (fun _=>rfl) (fun _=>rfl) (by rfl) (by rfl) (by rfl) (by rfl) (star1 rfl) (stars rfl) (fun _ _=>rfl) (by rfl) (by rfl) (by rfl) (by rfl) (star1 rfl) (stars rfl) (fun _ _=>rfl))) Z43)
abbrev Z1o:Stmt:=top 48
theorem Z1p:FnScope ["_law_yard_here", "_law_cell", "_law_made", "_law_k", "_law_some", "_law_way", "_law_beyond"] ["_law_yard_here", "_law_cell"] (defScope Z1o):=by walk_at "s"
theorem Z4c{f:Addr}{fd:FuncData} (F:Fun K "_law_drawn" "_law_drawn" Z1o f fd) (m:mg "_law_drawn" = some (.ref f)) (Z2V:Cal P w K mg base 1 "_law_edges" ["_law_yard_here"] Z1H) (Z03:Cal P w K mg base 1 "_law_draw" ["_law_cell", "_law_k", "_law_many"] Z00) (z_enumerate:mg "enumerate" = none) (z_max:mg "max" = none) (z_min:mg "min" = none) (z_tuple:mg "tuple" = none):Cal P w K mg base 2 "_law_drawn" ["_law_yard_here", "_law_cell"] Z0Z :=
 .mk F m (F.binds fun _ _ _ _ _ _ us hl=>args2 hl fun _ _=>rfl) (fnT (W:=Z2O) F Z1p Z3M (fun cdv A outer s H E hr =>
  (@jsc _ _ _ _ _ (@jown _ _ _ _ (2) _ _ _ Z1p.nd rfl (Or.inl rfl) (@ja0 _) (by rfl) (by walk_at "f")) (@jsc _ _ _ _ _ (@jfor _ _ _ _ _ _ _ _ PassesOwn.never rfl (@jiEnum _ _ _ _ _ _ _ _ rfl z_enumerate (@ja _ _ _ _ _ (@jcallC _ _ _ _ _ _ _ _ _ _ Z2V (hr.mono (by omega)) rfl (@ja _ _ _ _ _ (@jV _ 0 _ _ rfl (by walk_at "v")) (@ja0 _) (star1 rfl)) (by decide) (star1 rfl) (stars rfl)) (@ja0 _) (star1 rfl)) (by rfl)) (@jgt _ _ _ _ _ _ rfl (@jgsc _ _ _ _ _ (@jg _ _ (3) _ Z1p.nd rfl (Or.inl rfl) (by walk_at "f")) (@jgsc _ _ _ _ _ (@jg _ _ (4) _ Z1p.nd rfl (Or.inl rfl) (by walk_at "f")) (@jgs0 _) (by rfl)) (by rfl)) (by rfl) (by rfl)) (@jsc _ _ _ _ _ (@jset _ _ _ _ (5) _ _ Z1p.nd rfl (Or.inl rfl) (@jcallC _ _ _ _ _ _ _ _ _ _ Z03 (hr.mono (by omega)) rfl (@ja _ _ _ _ _ (@jV _ 1 _ _ rfl (by walk_at "v")) (@ja _ _ _ _ _ (@jV _ 3 _ _ rfl (by walk_at "v")) (@ja _ _ _ _ _ (@ji _ _ _ _) (@ja0 _) (star1 rfl)) (star1 rfl)) (star1 rfl)) (by decide) (star1 rfl) (stars rfl)) (by rfl) (by walk_at "f")) (@jsc _ _ _ _ _ (@jset _ _ _ _ (6) _ _ Z1p.nd rfl (Or.inl rfl) (@jop _ _ _ _ _ _ _ _ b_div (@jcallC _ _ _ _ _ _ _ _ _ _ Z03 (hr.mono (by omega)) rfl (@ja _ _ _ _ _ (@jV _ 1 _ _ rfl (by walk_at "v")) (@ja _ _ _ _ _ (@jop _ _ _ _ _ _ _ _ b_add (@ji _ _ _ _) (@jV _ 3 _ _ rfl (by walk_at "v"))) (@ja _ _ _ _ _ (@ji _ _ _ _) (@ja0 _) (star1 rfl)) (star1 rfl)) (star1 rfl)) (by decide) (star1 rfl) (stars rfl)) (@ji _ _ _ _)) (by rfl) (by walk_at "f")) (@js1 _ _ _ (@jsif _ _ _ _ _ _ _ _ (@tcmp _ _ _ _ _ _ _ _ (c_eq hr) (@jV _ 5 _ _ rfl (by walk_at "v")) (@ji _ _ _ _) (nomark _)) (@js1 _ _ _ (@japp _ _ _ _ _ _ _ _ _ (pv 2) (@jop _ _ _ _ _ _ _ _ b_add (@jop _ _ _ _ _ _ _ _ b_sub (@jop _ _ _ _ _ _ _ _ b_pow (@ji _ _ _ _) (@ji _ _ _ _)) (@jblt _ _ _ _ _ _ _ _ _ (bl_maxL rfl) rfl z_max boot_max (@ja _ _ _ _ _ (@jV _ 4 _ _ rfl (by walk_at "v")) (@ja0 _) (star1 rfl)) (by decide) (by decide) (star1 rfl) (stars rfl))) (@jV _ 6 _ _ rfl (by walk_at "v"))) (by rfl) (by rfl) (by rfl) (by rfl) (by rfl) (by rfl))) (@js1 _ _ _ (@jsif _ _ _ _ _ _ _ _ (@tcmp _ _ _ _ _ _ _ _ (c_eq hr) (@jV _ 5 _ _ rfl (by walk_at "v")) (@ji _ _ _ _) (nomark _)) (@js1 _ _ _ (@japp _ _ _ _ _ _ _ _ _ (pv 2) (@jop _ _ _ _ _ _ _ _ b_sub (@jop _ _ _ _ _ _ _ _ b_sub (@jop _ _ _ _ _ _ _ _ b_sub (@ji _ _ _ _) (@jop _ _ _ _ _ _ _ _ b_pow (@ji _ _ _ _) (@ji _ _ _ _))) (@jblt _ _ _ _ _ _ _ _ _ (bl_minL rfl) rfl z_min boot_min (@ja _ _ _ _ _ (@jV _ 4 _ _ rfl (by walk_at "v")) (@ja0 _) (star1 rfl)) (by decide) (by decide) (star1 rfl) (stars rfl))) (@jV _ 6 _ _ rfl (by walk_at "v"))) (by rfl) (by rfl) (by rfl) (by rfl) (by rfl) (by rfl))) (@js1 _ _ _ (@japp _ _ _ _ _ _ _ _ _ (pv 2) (@jop _ _ _ _ _ _ _ _ b_sub (@jcallC _ _ _ _ _ _ _ _ _ _ Z03 (hr.mono (by omega)) rfl (@ja _ _ _ _ _ (@jV _ 1 _ _ rfl (by walk_at "v")) (@ja _ _ _ _ _ (@jop _ _ _ _ _ _ _ _ b_add (@ji _ _ _ _) (@jV _ 3 _ _ rfl (by walk_at "v"))) (@ja _ _ _ _ _ (@ji _ _ _ _) (@ja0 _) (star1 rfl)) (star1 rfl)) (star1 rfl)) (by decide) (star1 rfl) (stars rfl)) (@ji _ _ _ _)) (by rfl) (by rfl) (by rfl) (by rfl) (by rfl) (by rfl))))))))) (fun _=>rfl)) (@jfrz _ _ 2 _ (@js1 _ _ _ (@jret _ _ _ _ (@jty _ _ _ _ _ _ _ _ _ ty_tuple rfl z_tuple boot_tuple (@ja _ _ _ _ _ (@jV _ 2 _ _ rfl (by walk_at "v")) (@ja0 _) (star1 rfl)) (by decide) (by decide) (star1 rfl) (stars rfl)))))))) Z44)
abbrev Z0P:Stmt:=top 46
theorem Z0z:FnScope ["_law_yard_here", "_law_found", "_law_name", "_law_plate_here", "_law_tip_here"] ["_law_yard_here"] (defScope Z0P):=by walk_at "s"
theorem Z3w{f:Addr}{fd:FuncData} (F:Fun K "_law_numbers" "_law_numbers" Z0P f fd) (m:mg "_law_numbers" = some (.ref f)):Cal P w K mg base 1 "_law_numbers" ["_law_yard_here"] Z0e :=
 .mk F m (F.binds fun _ _ _ _ _ _ us hl=>args1 hl fun _=>rfl) (fnT (W:=Z2d) F Z0z Z3g (fun cdv A outer s H E hr =>
  (@jsc _ _ _ _ _ (@jown _ _ _ _ (1) _ _ _ Z0z.nd rfl (Or.inl rfl) (@ja _ _ _ _ _ (@ji _ _ _ _) (@ja0 _) (star1 rfl)) (by rfl) (by walk_at "f")) (@jsc _ _ _ _ _ (@jfor _ _ _ _ _ _ _ _ PassesOwn.never rfl (@jiSeq _ _ _ _ (@jix _ _ _ _ _ _ (@jV _ 0 _ _ rfl (by walk_at "v")) (@ji _ _ _ _) (fun _ _=>rfl))) (@jgt _ _ _ _ _ _ rfl (@jgsc _ _ _ _ _ (@jg _ _ (2) _ Z0z.nd rfl (Or.inl rfl) (by walk_at "f")) (@jgsc _ _ _ _ _ (@jg _ _ (3) _ Z0z.nd rfl (Or.inl rfl) (by walk_at "f")) (@jgs0 _) (by rfl)) (by rfl)) (by rfl) (by rfl)) (@js1 _ _ _ (@jextT _ _ _ _ _ _ _ _ _ (pv 1) (@jop _ _ _ _ _ _ _ _ b_cat (@jop _ _ _ _ _ _ _ _ b_cat (@jix _ _ _ _ _ _ (@jV _ 3 _ _ rfl (by walk_at "v")) (@ji _ _ _ _) (fun _ _=>rfl)) (@jix _ _ _ _ _ _ (@jV _ 3 _ _ rfl (by walk_at "v")) (@ji _ _ _ _) (fun _ _=>rfl))) (@jix _ _ _ _ _ _ (@jV _ 3 _ _ rfl (by walk_at "v")) (@ji _ _ _ _) (fun _ _=>rfl))) (by rfl) (by rfl) (by rfl) (by rfl) (star1 rfl) (stars rfl))) (fun _=>rfl)) (@jsc _ _ _ _ _ (@jfor _ _ _ _ _ _ _ _ PassesOwn.never rfl (@jiSeq _ _ _ _ (@jix _ _ _ _ _ _ (@jV _ 0 _ _ rfl (by walk_at "v")) (@ji _ _ _ _) (fun _ _=>rfl))) (@jgt _ _ _ _ _ _ rfl (@jgsc _ _ _ _ _ (@jg _ _ (2) _ Z0z.nd rfl (Or.inl rfl) (by walk_at "f")) (@jgsc _ _ _ _ _ (@jg _ _ (3) _ Z0z.nd rfl (Or.inl rfl) (by walk_at "f")) (@jgsc _ _ _ _ _ (@jg _ _ (4) _ Z0z.nd rfl (Or.inl rfl) (by walk_at "f")) (@jgs0 _) (by rfl)) (by rfl)) (by rfl)) (by rfl) (by rfl)) (@js1 _ _ _ (@jextT _ _ _ _ _ _ _ _ _ (pv 1) (@jop _ _ _ _ _ _ _ _ b_cat (@jop _ _ _ _ _ _ _ _ b_cat (@jop _ _ _ _ _ _ _ _ b_cat (@jix _ _ _ _ _ _ (@jV _ 3 _ _ rfl (by walk_at "v")) (@ji _ _ _ _) (fun _ _=>rfl)) (@jix _ _ _ _ _ _ (@jV _ 3 _ _ rfl (by walk_at "v")) (@ji _ _ _ _) (fun _ _=>rfl))) (@jix _ _ _ _ _ _ (@jV _ 3 _ _ rfl (by walk_at "v")) (@ji _ _ _ _) (fun _ _=>rfl))) (@jV _ 4 _ _ rfl (by walk_at "v"))) (by rfl) (by rfl) (by rfl) (by rfl) (star1 rfl) (stars rfl))) (fun _=>rfl)) (@jfrz _ _ 1 _ (@js1 _ _ _ (@jret _ _ _ _ (@jV _ 1 _ _ rfl (by walk_at "v"))))))))) Z3s)
abbrev Z16:Stmt:=top 22
theorem Z3T:FnScope ["one", "other"] ["one", "other"] (defScope Z16):=by walk_at "s"
theorem Z3U{f:Addr}{fd:FuncData} (F:Fun K "dot_of" "dot_of" Z16 f fd) (m:mg "dot_of" = some (.ref f)):Cal P w K mg base 1 "dot_of" ["one", "other"] Z1t :=
 .mk F m (F.binds fun _ _ _ _ _ _ us hl=>args2 hl fun _ _=>rfl) (fnT (W:=Z2r) F Z3T Z3p (fun cdv A outer s H E hr =>
  (@js1 _ _ _ (@jret _ _ _ _ (@jop _ _ _ _ _ _ _ _ b_add (@jop _ _ _ _ _ _ _ _ b_add (@jop _ _ _ _ _ _ _ _ b_mul (@jix _ _ _ _ _ _ (@jV _ 0 _ _ rfl (by walk_at "v")) (@ji _ _ _ _) (fun _ _=>rfl)) (@jix _ _ _ _ _ _ (@jV _ 1 _ _ rfl (by walk_at "v")) (@ji _ _ _ _) (fun _ _=>rfl))) (@jop _ _ _ _ _ _ _ _ b_mul (@jix _ _ _ _ _ _ (@jV _ 0 _ _ rfl (by walk_at "v")) (@ji _ _ _ _) (fun _ _=>rfl)) (@jix _ _ _ _ _ _ (@jV _ 1 _ _ rfl (by walk_at "v")) (@ji _ _ _ _) (fun _ _=>rfl)))) (@jop _ _ _ _ _ _ _ _ b_mul (@jix _ _ _ _ _ _ (@jV _ 0 _ _ rfl (by walk_at "v")) (@ji _ _ _ _) (fun _ _=>rfl)) (@jix _ _ _ _ _ _ (@jV _ 1 _ _ rfl (by walk_at "v")) (@ji _ _ _ _) (fun _ _=>rfl))))))) Z3J)
abbrev Z0m:Stmt:=top 20
theorem Z2W:FnScope ["one", "other"] ["one", "other"] (defScope Z0m):=by walk_at "s"
theorem Z2X{f:Addr}{fd:FuncData} (F:Fun K "triple_sum" "triple_sum" Z0m f fd) (m:mg "triple_sum" = some (.ref f)):Cal P w K mg base 1 "triple_sum" ["one", "other"] Z0w :=
 .mk F m (F.binds fun _ _ _ _ _ _ us hl=>args2 hl fun _ _=>rfl) (fnT (W:=Z1B) F Z2W Z2B (fun cdv A outer s H E hr =>
  (@js1 _ _ _ (@jret _ _ _ _ (@jtup _ _ _ _ _ (@ja _ _ _ _ _ (@jop _ _ _ _ _ _ _ _ b_add (@jix _ _ _ _ _ _ (@jV _ 0 _ _ rfl (by walk_at "v")) (@ji _ _ _ _) (fun _ _=>rfl)) (@jix _ _ _ _ _ _ (@jV _ 1 _ _ rfl (by walk_at "v")) (@ji _ _ _ _) (fun _ _=>rfl))) (@ja _ _ _ _ _ (@jop _ _ _ _ _ _ _ _ b_add (@jix _ _ _ _ _ _ (@jV _ 0 _ _ rfl (by walk_at "v")) (@ji _ _ _ _) (fun _ _=>rfl)) (@jix _ _ _ _ _ _ (@jV _ 1 _ _ rfl (by walk_at "v")) (@ji _ _ _ _) (fun _ _=>rfl))) (@ja _ _ _ _ _ (@jop _ _ _ _ _ _ _ _ b_add (@jix _ _ _ _ _ _ (@jV _ 0 _ _ rfl (by walk_at "v")) (@ji _ _ _ _) (fun _ _=>rfl)) (@jix _ _ _ _ _ _ (@jV _ 1 _ _ rfl (by walk_at "v")) (@ji _ _ _ _) (fun _ _=>rfl))) (@ja0 _) (star1 rfl)) (star1 rfl)) (star1 rfl)))))) Z2K)
abbrev Z0B:Stmt:=top 14
theorem Z3j:FnScope ["thing"] ["thing"] (defScope Z0B):=by walk_at "s"
theorem Z3k{f:Addr}{fd:FuncData} (F:Fun K "is_whole" "is_whole" Z0B f fd) (m:mg "is_whole" = some (.ref f)) (z_isinstance:mg "isinstance" = none) (z_int:mg "int" = none) (z_bool:mg "bool" = none):Cal P w K mg base 1 "is_whole" ["thing"] Z0R :=
 .mk F m (F.binds fun _ _ _ _ _ _ us hl=>args1 hl fun _=>rfl) (fnT (W:=Z1X) F Z3j Z32 (fun cdv A outer s H E hr =>
  (@js1 _ _ _ (@jret _ _ _ _ (@jand _ _ _ _ _ _ _ (@jisi _ _ _ _ .int _ _ _ (@jV _ 0 _ _ rfl (by walk_at "v")) rfl z_isinstance rfl z_int boot_int (by decide) (by decide) (star1 rfl) (star1 rfl) (stars rfl)) (@jone _ _ _ _ _ (@jnot _ _ _ _ (@jisi _ _ _ _ .bool _ _ _ (@jV _ 0 _ _ rfl (by walk_at "v")) rfl z_isinstance rfl z_bool boot_bool (by decide) (by decide) (star1 rfl) (star1 rfl) (stars rfl)))))))) Z3c)
abbrev Z0k:Stmt:=top 18
theorem Z34:FnScope ["thing"] ["thing"] (defScope Z0k):=by walk_at "s"
theorem Z35{f:Addr}{fd:FuncData} (F:Fun K "is_triple" "is_triple" Z0k f fd) (m:mg "is_triple" = some (.ref f)) (Z1Y:Cal P w K mg base 1 "is_whole" ["thing"] Z0R) (z_isinstance:mg "isinstance" = none) (z_tuple:mg "tuple" = none) (z_len:mg "len" = none) (z_all:mg "all" = none):Cal P w K mg base 2 "is_triple" ["thing"] Z0G :=
 .mk F m (F.binds fun _ _ _ _ _ _ us hl=>args1 hl fun _=>rfl) (fnT (W:=Z1V) F Z34 Z2J (fun cdv A outer s H E hr =>
  (@jsc _ _ _ _ _ (@jsif _ _ _ _ _ _ _ _ (@jw _ _ _ (@tor _ _ _ _ _ _ _ (@tnot _ _ _ _ (@tval _ _ _ (@jisi _ _ _ _ .tuple _ _ _ (@jV _ 0 _ _ rfl (by walk_at "v")) rfl z_isinstance rfl z_tuple boot_tuple (by decide) (by decide) (star1 rfl) (star1 rfl) (stars rfl)) (fun _=>rfl))) (@tor1 _ _ _ _ (@tcmp _ _ _ _ _ _ _ _ (c_ne hr) (@jblt _ _ _ _ _ _ _ _ _ bl_len rfl z_len boot_len (@ja _ _ _ _ _ (@jV _ 0 _ _ rfl (by walk_at "v")) (@ja0 _) (star1 rfl)) (by decide) (by decide) (star1 rfl) (stars rfl)) (@ji _ _ _ _) (nomark _))))) (@js1 _ _ _ (@jret _ _ _ _ (@jb _ _ _ _))) (@js0 _)) (@js1 _ _ _ (@jret _ _ _ _ (@jblt _ _ _ _ _ _ _ _ _ (bl_all rfl) rfl z_all boot_all (@ja _ _ _ _ _ (@jcomp _ _ _ _ _ _ _ (defScope Z0k) (["number"]) (["thing"]) ([]) _ _ _ _ rfl rfl rfl (@jiSeq _ _ _ _ (@jV _ 0 _ _ rfl (by walk_at "v"))) rfl rfl (by decide +kernel) (by decide +kernel) (by decide +kernel) (by decide +kernel) (fun cl C s3 H2 ex=>(@jg _ _ (0) _ (show List.Nodup (["number"]:List Str) from by decide +kernel) rfl (Or.inl rfl) (by walk_at "f"))) (fun cl C s3 H2 ex=>(@jts0 _)) (fun cl C s3 H2 ex=>(@jcallC _ _ _ _ _ _ _ _ _ _ Z1Y (hr.mono (by omega)) rfl (@ja _ _ _ _ _ (@jV _ 0 _ _ rfl (by walk_at "v")) (@ja0 _) (star1 rfl)) (by decide) (star1 rfl) (stars rfl))) (fun _=>rfl)) (@ja0 _) (star1 rfl)) (by decide) (by decide) (star1 rfl) (stars rfl)))))) Z33)
abbrev Z08:Stmt:=top 19
theorem Z2e:FnScope ["thing"] ["thing"] (defScope Z08):=by walk_at "s"
theorem Z2f{f:Addr}{fd:FuncData} (F:Fun K "is_near_triple" "is_near_triple" Z08 f fd) (m:mg "is_near_triple" = some (.ref f)) (Z1W:Cal P w K mg base 2 "is_triple" ["thing"] Z0G) (z_all:mg "all" = none) (g_FARTHEST:GlC K mg "FARTHEST" c_FARTHEST):Cal P w K mg base 3 "is_near_triple" ["thing"] Z0g :=
 .mk F m (F.binds fun _ _ _ _ _ _ us hl=>args1 hl fun _=>rfl) (fnT (W:=Z0S) F Z2e Z25 (fun cdv A outer s H E hr =>
  (@js1 _ _ _ (@jret _ _ _ _ (@jand _ _ _ _ _ _ _ (@jcallC _ _ _ _ _ _ _ _ _ _ Z1W (hr.mono (by omega)) rfl (@ja _ _ _ _ _ (@jV _ 0 _ _ rfl (by walk_at "v")) (@ja0 _) (star1 rfl)) (by decide) (star1 rfl) (stars rfl)) (@jone _ _ _ _ _ (@jblt _ _ _ _ _ _ _ _ _ (bl_all rfl) rfl z_all boot_all (@ja _ _ _ _ _ (@jcomp _ _ _ _ _ _ _ (defScope Z08) (["number"]) (["thing"]) ([]) _ _ _ _ rfl rfl rfl (@jiSeq _ _ _ _ (@jV _ 0 _ _ rfl (by walk_at "v"))) rfl rfl (by decide +kernel) (by decide +kernel) (by decide +kernel) (by decide +kernel) (fun cl C s3 H2 ex=>(@jg _ _ (0) _ (show List.Nodup (["number"]:List Str) from by decide +kernel) rfl (Or.inl rfl) (by walk_at "f"))) (fun cl C s3 H2 ex=>(@jts0 _)) (fun cl C s3 H2 ex=>(@jchain _ _ _ _ _ _ _ _ _ _ _ _ c_le c_le (@jneg _ _ _ _ (@jglobC _ _ _ _ g_FARTHEST rfl (by decide))) (@jV _ 0 _ _ rfl (by walk_at "v")) (@jglobC _ _ _ _ g_FARTHEST rfl (by decide)) (by with_unfolding_all rfl))) (fun _=>rfl)) (@ja0 _) (star1 rfl)) (by decide) (by decide) (star1 rfl) (stars rfl))))))) Z29)
abbrev Z0A:Stmt:=top 25
theorem Z2A:FnScope ["rows", "triple", "shift", "changed"] ["rows", "triple", "shift"] (defScope Z0A):=by walk_at "s"
theorem Z3x{f:Addr}{fd:FuncData} (F:Fun K "by_rows" "by_rows" Z0A f fd) (m:mg "by_rows" = some (.ref f)) (Z2v:Cal P w K mg base 1 "dot_of" ["one", "other"] Z1t) (Z1D:Cal P w K mg base 1 "triple_sum" ["one", "other"] Z0w) (Z0T:Cal P w K mg base 3 "is_near_triple" ["thing"] Z0g) (z_tuple:mg "tuple" = none) (x_NoYard:FldCls K mg "NoYard" "name"):CalX P w K mg base 4 "by_rows" ["rows", "triple", "shift"] Z05 :=
 .mk F m (F.binds fun _ _ _ _ _ _ us hl=>args3 hl fun _ _ _=>rfl) (fnX (W:=Z2a) F Z2A Z3d (fun R cdv A outer s H E hr tk =>
  (@jsc _ _ _ _ _ (@jset _ _ _ _ (3) _ _ Z2A.nd rfl (Or.inl rfl) (@jcallC _ _ _ _ _ _ _ _ _ _ Z1D (hr.mono (by omega)) rfl (@ja _ _ _ _ _ (@jty _ _ _ _ _ _ _ _ _ ty_tuple rfl z_tuple boot_tuple (@ja _ _ _ _ _ (@jcomp _ _ _ _ _ _ _ (defScope Z0A) (["row"]) (["rows" , "triple" , "shift" , "changed"]) ([("triple" , 1)]) _ _ _ _ rfl rfl rfl (@jiSeq _ _ _ _ (@jV _ 0 _ _ rfl (by walk_at "v"))) rfl rfl (by decide +kernel) (by decide +kernel) (by decide +kernel) (by decide +kernel) (fun cl C s3 H2 ex=>(@jg _ _ (0) _ (show List.Nodup (["row" , "triple"]:List Str) from by decide +kernel) rfl (Or.inl rfl) (by walk_at "f"))) (fun cl C s3 H2 ex=>(@jts0 _)) (fun cl C s3 H2 ex=>(@jcallC _ _ _ _ _ _ _ _ _ _ Z2v (hr.mono (by omega)) rfl (@ja _ _ _ _ _ (@jV _ 0 _ _ rfl (by walk_at "v")) (@ja _ _ _ _ _ (@jV _ 1 _ _ rfl (by walk_at "v")) (@ja0 _) (star1 rfl)) (star1 rfl)) (by decide) (star1 rfl) (stars rfl))) (fun _=>rfl)) (@ja0 _) (star1 rfl)) (by decide) (by decide) (star1 rfl) (stars rfl)) (@ja _ _ _ _ _ (@jV _ 2 _ _ rfl (by walk_at "v")) (@ja0 _) (star1 rfl)) (star1 rfl)) (by decide) (star1 rfl) (stars rfl)) (by rfl) (by walk_at "f")) (@jsc _ _ _ _ _ (@jsif _ _ _ _ _ _ _ _ (@tnot _ _ _ _ (@tval _ _ _ (@jcallC _ _ _ _ _ _ _ _ _ _ Z0T (hr.mono (by omega)) rfl (@ja _ _ _ _ _ (@jV _ 3 _ _ rfl (by walk_at "v")) (@ja0 _) (star1 rfl)) (by decide) (star1 rfl) (stars rfl)) (fun _=>rfl))) (@js1 _ _ _ (@jraiseF _ _ _ _ _ _ _ _ _ (0) x_NoYard tk rfl (hr.mono (by omega)) rfl (@jn _ _ _) (by rfl) (star1 rfl) (stars rfl))) (@js0 _)) (@js1 _ _ _ (@jret _ _ _ _ (@jV _ 3 _ _ rfl (by walk_at "v"))))))) Z3q)
abbrev Z0d:Stmt:=top 26
theorem Z2m:FnScope ["rows", "plate", "shift"] ["rows", "plate", "shift"] (defScope Z0d):=by walk_at "s"
theorem Z2n{f:Addr}{fd:FuncData} (F:Fun K "plate_by_rows" "plate_by_rows" Z0d f fd) (m:mg "plate_by_rows" = some (.ref f)) (Z0u:CalX P w K mg base 4 "by_rows" ["rows", "triple", "shift"] Z05) (g_NOUGHT:GlC K mg "NOUGHT" c_NOUGHT):CalX P w K mg base 5 "plate_by_rows" ["rows", "plate", "shift"] Z04 :=
 .mk F m (F.binds fun _ _ _ _ _ _ us hl=>args3 hl fun _ _ _=>rfl) (fnX (W:=Z0Y) F Z2m Z2b (fun R cdv A outer s H E hr tk =>
  (@js1 _ _ _ (@jret _ _ _ _ (@jtup _ _ _ _ _ (@ja _ _ _ _ _ (@jcallX _ _ _ _ _ _ _ _ _ _ _ Z0u tk (hr.mono (by omega)) rfl (@ja _ _ _ _ _ (@jV _ 0 _ _ rfl (by walk_at "v")) (@ja _ _ _ _ _ (@jix _ _ _ _ _ _ (@jV _ 1 _ _ rfl (by walk_at "v")) (@ji _ _ _ _) (fun _ _=>rfl)) (@ja _ _ _ _ _ (@jV _ 2 _ _ rfl (by walk_at "v")) (@ja0 _) (star1 rfl)) (star1 rfl)) (star1 rfl)) (by decide) (star1 rfl) (stars rfl)) (@ja _ _ _ _ _ (@jcallX _ _ _ _ _ _ _ _ _ _ _ Z0u tk (hr.mono (by omega)) rfl (@ja _ _ _ _ _ (@jV _ 0 _ _ rfl (by walk_at "v")) (@ja _ _ _ _ _ (@jix _ _ _ _ _ _ (@jV _ 1 _ _ rfl (by walk_at "v")) (@ji _ _ _ _) (fun _ _=>rfl)) (@ja _ _ _ _ _ (@jglobC _ _ _ _ g_NOUGHT rfl (by decide)) (@ja0 _) (star1 rfl)) (star1 rfl)) (star1 rfl)) (by decide) (star1 rfl) (stars rfl)) (@ja _ _ _ _ _ (@jcallX _ _ _ _ _ _ _ _ _ _ _ Z0u tk (hr.mono (by omega)) rfl (@ja _ _ _ _ _ (@jV _ 0 _ _ rfl (by walk_at "v")) (@ja _ _ _ _ _ (@jix _ _ _ _ _ _ (@jV _ 1 _ _ rfl (by walk_at "v")) (@ji _ _ _ _) (fun _ _=>rfl)) (@ja _ _ _ _ _ (@jglobC _ _ _ _ g_NOUGHT rfl (by decide)) (@ja0 _) (star1 rfl)) (star1 rfl)) (star1 rfl)) (by decide) (star1 rfl) (stars rfl)) (@ja0 _) (star1 rfl)) (star1 rfl)) (star1 rfl)))))) Z2j)
abbrev Z07:Stmt:=top 27
theorem Z0C:FnScope ["sun_rows", "rows", "yard", "shift", "sun", "walls", "dials"] ["sun_rows", "rows", "yard", "shift"] (defScope Z07):=by walk_at "s"
theorem Z2w{f:Addr}{fd:FuncData} (F:Fun K "yard_by_rows" "yard_by_rows" Z07 f fd) (m:mg "yard_by_rows" = some (.ref f)) (Z0u:CalX P w K mg base 4 "by_rows" ["rows", "triple", "shift"] Z05) (Z0D:CalX P w K mg base 5 "plate_by_rows" ["rows", "plate", "shift"] Z04) (g_NOUGHT:GlC K mg "NOUGHT" c_NOUGHT):CalGN P w K mg base 6 "yard_by_rows" ["sun_rows", "rows", "yard", "shift"] Z06 :=
 .mk F m (F.binds fun _ _ _ _ _ _ us hl=>args4 hl fun _ _ _ _=>rfl) (fnGN (W:=Z1f) F Z0C Z2k (fun R cdv A outer s H E hr tk tkc =>
  (@jn_c _ _ _ _ _ (@jsetcXO _ _ _ _ _ _ _ _ (defScope Z07) (["entry"]) (["sun_rows" , "rows" , "yard" , "shift" , "sun" , "walls" , "dials"]) ([("sun_rows" , 0)]) _ _ _ _ (4) _ _ _ Z0C.nd rfl (Or.inl rfl) rfl rfl rfl tkc (@jiSeq _ _ _ _ (@jix _ _ _ _ _ _ (@jV _ 2 _ _ rfl (by walk_at "v")) (@ji _ _ _ _) (fun _ _=>rfl))) rfl rfl (by decide +kernel) (by decide +kernel) (by decide +kernel) (by decide +kernel) (fun cl C s3 H2 ex=>(@jg _ _ (0) _ (show List.Nodup (["entry" , "sun_rows"]:List Str) from by decide +kernel) rfl (Or.inl rfl) (by walk_at "f"))) (fun cl C s3 H2 ex=>(@jts0 _)) (fun cl C s3 H2 ex E0 tko=>(@jtup _ _ _ _ _ (@ja _ _ _ _ _ (@jix _ _ _ _ _ _ (@jV _ 0 _ _ rfl (by walk_at "v")) (@ji _ _ _ _) (fun _ _=>rfl)) (@ja _ _ _ _ _ (@jcallY _ _ _ _ _ _ _ _ _ _ _ Z0u tko (hr.mono (by omega)) rfl (@ja _ _ _ _ _ (@jV _ 1 _ _ rfl (by walk_at "v")) (@ja _ _ _ _ _ (@jix _ _ _ _ _ _ (@jV _ 0 _ _ rfl (by walk_at "v")) (@ji _ _ _ _) (fun _ _=>rfl)) (@ja _ _ _ _ _ (@jglobC _ _ _ _ g_NOUGHT rfl (by decide)) (@ja0 _) (star1 rfl)) (star1 rfl)) (star1 rfl)) (by decide) (star1 rfl) (stars rfl)) (@ja0 _) (star1 rfl)) (star1 rfl)))) (fun _=>rfl) (by rfl) (by walk_at "f")) (@jn_c _ _ _ _ _ (@jsetcXO _ _ _ _ _ _ _ _ (defScope Z07) (["wall"]) (["sun_rows" , "rows" , "yard" , "shift" , "sun" , "walls" , "dials"]) ([("rows" , 1) , ("shift" , 3)]) _ _ _ _ (5) _ _ _ Z0C.nd rfl (Or.inl rfl) rfl rfl rfl tkc (@jiSeq _ _ _ _ (@jix _ _ _ _ _ _ (@jV _ 2 _ _ rfl (by walk_at "v")) (@ji _ _ _ _) (fun _ _=>rfl))) rfl rfl (by decide +kernel) (by decide +kernel) (by decide +kernel) (by decide +kernel) (fun cl C s3 H2 ex=>(@jg _ _ (0) _ (show List.Nodup (["wall" , "rows" , "shift"]:List Str) from by decide +kernel) rfl (Or.inl rfl) (by walk_at "f"))) (fun cl C s3 H2 ex=>(@jts0 _)) (fun cl C s3 H2 ex E0 tko=>(@jtup _ _ _ _ _ (@ja _ _ _ _ _ (@jix _ _ _ _ _ _ (@jV _ 0 _ _ rfl (by walk_at "v")) (@ji _ _ _ _) (fun _ _=>rfl)) (@ja _ _ _ _ _ (@jcallY _ _ _ _ _ _ _ _ _ _ _ Z0D tko (hr.mono (by omega)) rfl (@ja _ _ _ _ _ (@jV _ 1 _ _ rfl (by walk_at "v")) (@ja _ _ _ _ _ (@jix _ _ _ _ _ _ (@jV _ 0 _ _ rfl (by walk_at "v")) (@ji _ _ _ _) (fun _ _=>rfl)) (@ja _ _ _ _ _ (@jV _ 2 _ _ rfl (by walk_at "v")) (@ja0 _) (star1 rfl)) (star1 rfl)) (star1 rfl)) (by decide) (star1 rfl) (stars rfl)) (@ja0 _) (star1 rfl)) (star1 rfl)))) (fun _=>rfl) (by rfl) (by walk_at "f")) (@jn_c _ _ _ _ _ (@jsetcXO _ _ _ _ _ _ _ _ (defScope Z07) (["dial"]) (["sun_rows" , "rows" , "yard" , "shift" , "sun" , "walls" , "dials"]) ([("rows" , 1) , ("shift" , 3)]) _ _ _ _ (6) _ _ _ Z0C.nd rfl (Or.inl rfl) rfl rfl rfl tkc (@jiSeq _ _ _ _ (@jix _ _ _ _ _ _ (@jV _ 2 _ _ rfl (by walk_at "v")) (@ji _ _ _ _) (fun _ _=>rfl))) rfl rfl (by decide +kernel) (by decide +kernel) (by decide +kernel) (by decide +kernel) (fun cl C s3 H2 ex=>(@jg _ _ (0) _ (show List.Nodup (["dial" , "rows" , "shift"]:List Str) from by decide +kernel) rfl (Or.inl rfl) (by walk_at "f"))) (fun cl C s3 H2 ex=>(@jts0 _)) (fun cl C s3 H2 ex E0 tko=>(@jtup _ _ _ _ _ (@ja _ _ _ _ _ (@jix _ _ _ _ _ _ (@jV _ 0 _ _ rfl (by walk_at "v")) (@ji _ _ _ _) (fun _ _=>rfl)) (@ja _ _ _ _ _ (@jcallY _ _ _ _ _ _ _ _ _ _ _ Z0D tko (hr.mono (by omega)) rfl (@ja _ _ _ _ _ (@jV _ 1 _ _ rfl (by walk_at "v")) (@ja _ _ _ _ _ (@jix _ _ _ _ _ _ (@jV _ 0 _ _ rfl (by walk_at "v")) (@ji _ _ _ _) (fun _ _=>rfl)) (@ja _ _ _ _ _ (@jV _ 2 _ _ rfl (by walk_at "v")) (@ja0 _) (star1 rfl)) (star1 rfl)) (star1 rfl)) (by decide) (star1 rfl) (stars rfl)) (@ja _ _ _ _ _ (@jcallY _ _ _ _ _ _ _ _ _ _ _ Z0u tko (hr.mono (by omega)) rfl (@ja _ _ _ _ _ (@jV _ 1 _ _ rfl (by walk_at "v")) (@ja _ _ _ _ _ (@jix _ _ _ _ _ _ (@jV _ 0 _ _ rfl (by walk_at "v")) (@ji _ _ _ _) (fun _ _=>rfl)) (@ja _ _ _ _ _ (@jV _ 2 _ _ rfl (by walk_at "v")) (@ja0 _) (star1 rfl)) (star1 rfl)) (star1 rfl)) (by decide) (star1 rfl) (stars rfl)) (@ja0 _) (star1 rfl)) (star1 rfl)) (star1 rfl)))) (fun _=>rfl) (by rfl) (by walk_at "f")) (@jn_own _ _ ([4,5,6]) _ _ _ (by decide) (by decide) (@pv_cons _ _ _ _ _ (pv 4) (@pv_cons _ _ _ _ _ (pv 5) (@pv_cons _ _ _ _ _ (pv 6) (@pv_nil _) (star1 rfl)) (star1 rfl)) (star1 rfl))))))) Z2t)
abbrev Z0n:Stmt:=top 28
theorem Z2Y:FnScope ["yard", "triple"] ["yard", "triple"] (defScope Z0n):=by walk_at "s"
theorem Z2Z{f:Addr}{fd:FuncData} (F:Fun K "moved_yard" "moved_yard" Z0n f fd) (m:mg "moved_yard" = some (.ref f)) (Z0h:CalGN P w K mg base 6 "yard_by_rows" ["sun_rows", "rows", "yard", "shift"] Z06) (g_SAME:GlC K mg "SAME" c_SAME):CalGN P w K mg base 7 "moved_yard" ["yard", "triple"] Z01 :=
 .mk F m (F.binds fun _ _ _ _ _ _ us hl=>args2 hl fun _ _=>rfl) (fnGN (W:=Z26) F Z2Y Z2C (fun R cdv A outer s H E hr tk tkc =>
  (@jn_call _ _ _ _ _ _ _ _ _ _ _ _ Z0h tk (hr.mono (by omega)) rfl (@ja _ _ _ _ _ (@jglobC _ _ _ _ g_SAME rfl (by decide)) (@ja _ _ _ _ _ (@jglobC _ _ _ _ g_SAME rfl (by decide)) (@ja _ _ _ _ _ (@jV _ 0 _ _ rfl (by walk_at "v")) (@ja _ _ _ _ _ (@jV _ 1 _ _ rfl (by walk_at "v")) (@ja0 _) (star1 rfl)) (star1 rfl)) (star1 rfl)) (star1 rfl)) (by decide) (star1 rfl) (stars rfl))) Z2L)
abbrev Z0f:Stmt:=top 21
theorem Z2x:FnScope ["one", "many"] ["one", "many"] (defScope Z0f):=by walk_at "s"
theorem Z2y{f:Addr}{fd:FuncData} (F:Fun K "triple_times" "triple_times" Z0f f fd) (m:mg "triple_times" = some (.ref f)):Cal P w K mg base 1 "triple_times" ["one", "many"] Z09 :=
 .mk F m (F.binds fun _ _ _ _ _ _ us hl=>args2 hl fun _ _=>rfl) (fnT (W:=Z1e) F Z2x Z2i (fun cdv A outer s H E hr =>
  (@js1 _ _ _ (@jret _ _ _ _ (@jtup _ _ _ _ _ (@ja _ _ _ _ _ (@jop _ _ _ _ _ _ _ _ b_mul (@jix _ _ _ _ _ _ (@jV _ 0 _ _ rfl (by walk_at "v")) (@ji _ _ _ _) (fun _ _=>rfl)) (@jV _ 1 _ _ rfl (by walk_at "v"))) (@ja _ _ _ _ _ (@jop _ _ _ _ _ _ _ _ b_mul (@jix _ _ _ _ _ _ (@jV _ 0 _ _ rfl (by walk_at "v")) (@ji _ _ _ _) (fun _ _=>rfl)) (@jV _ 1 _ _ rfl (by walk_at "v"))) (@ja _ _ _ _ _ (@jop _ _ _ _ _ _ _ _ b_mul (@jix _ _ _ _ _ _ (@jV _ 0 _ _ rfl (by walk_at "v")) (@ji _ _ _ _) (fun _ _=>rfl)) (@jV _ 1 _ _ rfl (by walk_at "v"))) (@ja0 _) (star1 rfl)) (star1 rfl)) (star1 rfl)))))) Z2s)
abbrev Z0a:Stmt:=top 29
theorem Z1O:FnScope ["yard", "many", "rows"] ["yard", "many"] (defScope Z0a):=by walk_at "s"
theorem Z2z{f:Addr}{fd:FuncData} (F:Fun K "greater_yard" "greater_yard" Z0a f fd) (m:mg "greater_yard" = some (.ref f)) (Z1h:Cal P w K mg base 1 "triple_times" ["one", "many"] Z09) (Z0h:CalGN P w K mg base 6 "yard_by_rows" ["sun_rows", "rows", "yard", "shift"] Z06) (g_SAME:GlC K mg "SAME" c_SAME) (g_NOUGHT:GlC K mg "NOUGHT" c_NOUGHT):CalGN P w K mg base 7 "greater_yard" ["yard", "many"] Z02 :=
 .mk F m (F.binds fun _ _ _ _ _ _ us hl=>args2 hl fun _ _=>rfl) (fnGN (W:=Z1g) F Z1O Z2l (fun R cdv A outer s H E hr tk tkc =>
  (@jn_c _ _ _ _ _ (@jsetc _ _ _ _ _ _ _ (defScope Z0a) (["row"]) (["yard" , "many" , "rows"]) ([("many" , 1)]) _ _ _ _ (2) _ _ _ Z1O.nd rfl (Or.inl rfl) rfl rfl rfl (@jiSeq _ _ _ _ (@jglobC _ _ _ _ g_SAME rfl (by decide))) rfl rfl (by decide +kernel) (by decide +kernel) (by decide +kernel) (by decide +kernel) (fun cl C s3 H2 ex=>(@jg _ _ (0) _ (show List.Nodup (["row" , "many"]:List Str) from by decide +kernel) rfl (Or.inl rfl) (by walk_at "f"))) (fun cl C s3 H2 ex=>(@jts0 _)) (fun cl C s3 H2 ex=>(@jcallC _ _ _ _ _ _ _ _ _ _ Z1h (hr.mono (by omega)) rfl (@ja _ _ _ _ _ (@jV _ 0 _ _ rfl (by walk_at "v")) (@ja _ _ _ _ _ (@jV _ 1 _ _ rfl (by walk_at "v")) (@ja0 _) (star1 rfl)) (star1 rfl)) (by decide) (star1 rfl) (stars rfl))) (fun _=>rfl) (by rfl) (by walk_at "f")) (@jn_call _ _ _ _ _ _ _ _ _ _ _ _ Z0h tk (hr.mono (by omega)) rfl (@ja _ _ _ _ _ (@jglobC _ _ _ _ g_SAME rfl (by decide)) (@ja _ _ _ _ _ (@jV _ 2 _ _ rfl (by walk_at "v")) (@ja _ _ _ _ _ (@jV _ 0 _ _ rfl (by walk_at "v")) (@ja _ _ _ _ _ (@jglobC _ _ _ _ g_NOUGHT rfl (by decide)) (@ja0 _) (star1 rfl)) (star1 rfl)) (star1 rfl)) (star1 rfl)) (by decide) (star1 rfl) (stars rfl)))) Z2u)
abbrev Z1P:Stmt:=top 49
theorem Z1Q:FnScope ["_law_way", "_law_yard_here", "_law_more", "_law_caught", "_law_found", "_law_e"] ["_law_way", "_law_yard_here", "_law_more"] (defScope Z1P):=by walk_at "s"
theorem Z4o{f:Addr}{fd:FuncData} (F:Fun K "_law_told" "_law_told" Z1P f fd) (m:mg "_law_told" = some (.ref f)) (Z0l:CalGN P w K mg base 7 "moved_yard" ["yard", "triple"] Z01) (Z0i:CalGN P w K mg base 7 "greater_yard" ["yard", "many"] Z02) (z_isinstance:mg "isinstance" = none) (z_ValueError:mg "ValueError" = none) (ct_YardError:Catches K mg "YardError" ["NoYard"]) (gf_name:GetF K "name" ["NoYard"]) {D_NoBack:Addr} (mc_NoBack:mg "NoBack" = some (.ref D_NoBack)) {D_NoHour:Addr} (mc_NoHour:mg "NoHour" = some (.ref D_NoHour)) {D_NoName:Addr} (mc_NoName:mg "NoName" = some (.ref D_NoName)) {D_NoNumber:Addr} (mc_NoNumber:mg "NoNumber" = some (.ref D_NoNumber)) {D_NoPlate:Addr} (mc_NoPlate:mg "NoPlate" = some (.ref D_NoPlate)) {D_NoRow:Addr} (mc_NoRow:mg "NoRow" = some (.ref D_NoRow)) {D_NoSay:Addr} (mc_NoSay:mg "NoSay" = some (.ref D_NoSay)) {D_NoSun:Addr} (mc_NoSun:mg "NoSun" = some (.ref D_NoSun)) {D_NotLit:Addr} (mc_NotLit:mg "NotLit" = some (.ref D_NotLit)) {D_TooMany:Addr} (mc_TooMany:mg "TooMany" = some (.ref D_TooMany)) {D_NoYard:Addr} (mc_NoYard:mg "NoYard" = some (.ref D_NoYard)) (an_NoBack_NoHour_NoName_NoNumber_NoPlate_NoRow_NoSay_NoSun_NotLit_TooMany:AnsN K (List.map Value.ref [D_NoBack,D_NoHour,D_NoName,D_NoNumber,D_NoPlate,D_NoRow,D_NoSay,D_NoSun,D_NotLit,D_TooMany]) [("NoYard", false)]) (an_NoYard:Ans1 K (.ref D_NoYard) [("NoYard", true)]) (an_ValueError:Ans1 K (.type "ValueError") [("NoYard", true)]):CalG0 P w K mg base 8 "_law_told" ["_law_way", "_law_yard_here", "_law_more"] Z0x :=
 .mk F m (F.binds fun _ _ _ _ _ _ us hl=>args3 hl fun _ _ _=>rfl) (fnG0 (W:=Z3e) F Z1Q Z41 (fun cdv A outer s H E hr =>
  (@jn_c _ _ _ _ _ (@jset _ _ _ _ (3) _ _ Z1Q.nd rfl (Or.inl rfl) (@jn _ _ _) (by rfl) (by walk_at "f")) (@jn_c _ _ _ _ _ (@jset _ _ _ _ (4) _ _ Z1Q.nd rfl (Or.inl rfl) (@jn _ _ _) (by rfl) (by walk_at "f")) (@jn_told _ _ _ _ _ _ _ _ _ _ _ _ (5) (3) (4) _ _ _ _ _ _ _ _ _ (DefCx.mk rfl rfl rfl) ct_YardError Z1Q.nd rfl rfl (by decide) rfl rfl rfl (@jbgIf _ _ _ _ _ _ _ _ _ (@tcmp _ _ _ _ _ _ _ _ (c_eq hr) (@jV _ 0 _ _ rfl (by walk_at "v")) (@ji _ _ _ _) (nomark _)) (fun _ _ z=>z) (@jbgSet _ _ _ _ _ _ _ _ _ _ (4) _ _ _ Z1Q.nd rfl (Or.inl rfl) Z0l (fun _ _ z=>z) (hr.mono (by omega)) rfl (@ja _ _ _ _ _ (@jV _ 1 _ _ rfl (by walk_at "v")) (@ja _ _ _ _ _ (@jV _ 2 _ _ rfl (by walk_at "v")) (@ja0 _) (star1 rfl)) (star1 rfl)) (by decide) (star1 rfl) (stars rfl) (by rfl) (by walk_at "f")) (@jbgSet _ _ _ _ _ _ _ _ _ _ (4) _ _ _ Z1Q.nd rfl (Or.inl rfl) Z0i (fun _ _ z=>z) (hr.mono (by omega)) rfl (@ja _ _ _ _ _ (@jV _ 1 _ _ rfl (by walk_at "v")) (@ja _ _ _ _ _ (@jV _ 2 _ _ rfl (by walk_at "v")) (@ja0 _) (star1 rfl)) (star1 rfl)) (by decide) (star1 rfl) (stars rfl) (by rfl) (by walk_at "f"))) (@tcmp _ _ _ _ _ _ _ _ c_is (@jV _ 3 _ _ rfl (by walk_at "v")) (@jn _ _ _) (nomark _)) (pv 4) (@jV _ 4 _ _ rfl (by walk_at "v")) (@jsc _ _ _ _ _ (@jsif _ _ _ _ _ _ _ _ (@tval _ _ _ (@jisN _ _ _ _ _ _ _ _ _ _ an_NoBack_NoHour_NoName_NoNumber_NoPlate_NoRow_NoSay_NoSun_NotLit_TooMany (show 10<=1000 from (by decide)) (@jV _ 3 _ _ rfl (by walk_at "v")) rfl z_isinstance (@crow _ _ _ _ _ _ rfl mc_NoBack (@crow _ _ _ _ _ _ rfl mc_NoHour (@crow _ _ _ _ _ _ rfl mc_NoName (@crow _ _ _ _ _ _ rfl mc_NoNumber (@crow _ _ _ _ _ _ rfl mc_NoPlate (@crow _ _ _ _ _ _ rfl mc_NoRow (@crow _ _ _ _ _ _ rfl mc_NoSay (@crow _ _ _ _ _ _ rfl mc_NoSun (@crow _ _ _ _ _ _ rfl mc_NotLit (@crow _ _ _ _ _ _ rfl mc_TooMany (@crow0 _) (by decide)) (by decide)) (by decide)) (by decide)) (by decide)) (by decide)) (by decide)) (by decide)) (by decide)) (by decide)) (star1 rfl) (star1 rfl) (stars rfl)) (fun _=>rfl)) (@js1 _ _ _ (@jret _ _ _ _ (@js _ _ _ _))) (@js0 _)) (@jsc _ _ _ _ _ (@jsif _ _ _ _ _ _ _ _ (@jw _ _ _ (@tor _ _ _ _ _ _ _ (@tnot _ _ _ _ (@tval _ _ _ (@jisO _ _ _ _ _ _ _ _ _ an_NoYard (@jV _ 3 _ _ rfl (by walk_at "v")) rfl z_isinstance rfl mc_NoYard (by decide) (star1 rfl) (star1 rfl) (stars rfl)) (fun _=>rfl))) (@tor _ _ _ _ _ _ _ (@tnot _ _ _ _ (@tval _ _ _ (@jisB _ _ _ _ _ _ _ _ _ an_ValueError (@jV _ 3 _ _ rfl (by walk_at "v")) rfl z_isinstance rfl z_ValueError PyProof.Rows.Boot.«ValueError» (by decide) (by decide) (star1 rfl) (star1 rfl) (stars rfl)) (fun _=>rfl))) (@tor1 _ _ _ _ (@tcmp _ _ _ _ _ _ _ _ c_isnot (@jfld _ _ _ _ _ _ gf_name (@jV _ 3 _ _ rfl (by walk_at "v")) (by rfl)) (@jn _ _ _) (nomark _)))))) (@js1 _ _ _ (@jret _ _ _ _ (@js _ _ _ _))) (@js0 _)) (@js1 _ _ _ (@jret _ _ _ _ (@js _ _ _ _))))) (by decide) (by decide) (by decide))))) Z4k)
abbrev Z0E:Stmt:=top 44
theorem Z0F:FnScope ["_law_yard_here", "_law_triple_here", "_law_shuts", "_law_dials", "_law_name", "_law_plate_here", "_law_tip_here", "_law_moved_here"] ["_law_yard_here", "_law_triple_here"] (defScope Z0E):=by walk_at "s"
theorem Z4d{f:Addr}{fd:FuncData} (F:Fun K "_law_moved" "_law_moved" Z0E f fd) (m:mg "_law_moved" = some (.ref f)) (z_zip:mg "zip" = none) (z_tuple:mg "tuple" = none):Cal P w K mg base 1 "_law_moved" ["_law_yard_here", "_law_triple_here"] Z0M :=
 .mk F m (F.binds fun _ _ _ _ _ _ us hl=>args2 hl fun _ _=>rfl) (fnT (W:=Z2M) F Z0F Z3K (fun cdv A outer s H E hr =>
  (@jsc _ _ _ _ _ (@jown _ _ _ _ (2) _ _ _ Z0F.nd rfl (Or.inl rfl) (@ja0 _) (by rfl) (by walk_at "f")) (@jsc _ _ _ _ _ (@jown _ _ _ _ (3) _ _ _ Z0F.nd rfl (Or.inl rfl) (@ja0 _) (by rfl) (by walk_at "f")) (@jsc _ _ _ _ _ (@jfor _ _ _ _ _ _ _ _ PassesOwn.never rfl (@jiSeq _ _ _ _ (@jix _ _ _ _ _ _ (@jV _ 0 _ _ rfl (by walk_at "v")) (@ji _ _ _ _) (fun _ _=>rfl))) (@jgt _ _ _ _ _ _ rfl (@jgsc _ _ _ _ _ (@jg _ _ (4) _ Z0F.nd rfl (Or.inl rfl) (by walk_at "f")) (@jgsc _ _ _ _ _ (@jg _ _ (5) _ Z0F.nd rfl (Or.inl rfl) (by walk_at "f")) (@jgs0 _) (by rfl)) (by rfl)) (by rfl) (by rfl)) (@js1 _ _ _ (@japp _ _ _ _ _ _ _ _ _ (pv 2) (@jtup _ _ _ _ _ (@ja _ _ _ _ _ (@jV _ 4 _ _ rfl (by walk_at "v")) (@ja _ _ _ _ _ (@jtup _ _ _ _ _ (@ja _ _ _ _ _ (@jty _ _ _ _ _ _ _ _ _ ty_tuple rfl z_tuple boot_tuple (@ja _ _ _ _ _ (@jcomp _ _ _ _ _ _ _ (defScope Z0E) (["_law_a" , "_law_b"]) (["_law_yard_here" , "_law_triple_here" , "_law_shuts" , "_law_dials" , "_law_name" , "_law_plate_here" , "_law_tip_here" , "_law_moved_here"]) ([]) _ _ _ _ rfl rfl rfl (@jiZip _ _ _ _ _ _ _ _ _ rfl z_zip (@ja _ _ _ _ _ (@jix _ _ _ _ _ _ (@jV _ 5 _ _ rfl (by walk_at "v")) (@ji _ _ _ _) (fun _ _=>rfl)) (@ja _ _ _ _ _ (@jV _ 1 _ _ rfl (by walk_at "v")) (@ja0 _) (star1 rfl)) (star1 rfl)) (star1 rfl) (stars rfl)) rfl rfl (by decide +kernel) (by decide +kernel) (by decide +kernel) (by decide +kernel) (fun cl C s3 H2 ex=>(@jgt _ _ _ _ _ _ rfl (@jgsc _ _ _ _ _ (@jg _ _ (0) _ (show List.Nodup (["_law_a" , "_law_b"]:List Str) from by decide +kernel) rfl (Or.inl rfl) (by walk_at "f")) (@jgsc _ _ _ _ _ (@jg _ _ (1) _ (show List.Nodup (["_law_a" , "_law_b"]:List Str) from by decide +kernel) rfl (Or.inl rfl) (by walk_at "f")) (@jgs0 _) (by rfl)) (by rfl)) (by rfl) (by rfl))) (fun cl C s3 H2 ex=>(@jts0 _)) (fun cl C s3 H2 ex=>(@jop _ _ _ _ _ _ _ _ b_add (@jV _ 0 _ _ rfl (by walk_at "v")) (@jV _ 1 _ _ rfl (by walk_at "v")))) (fun _=>rfl)) (@ja0 _) (star1 rfl)) (by decide) (by decide) (star1 rfl) (stars rfl)) (@ja _ _ _ _ _ (@jix _ _ _ _ _ _ (@jV _ 5 _ _ rfl (by walk_at "v")) (@ji _ _ _ _) (fun _ _=>rfl)) (@ja _ _ _ _ _ (@jix _ _ _ _ _ _ (@jV _ 5 _ _ rfl (by walk_at "v")) (@ji _ _ _ _) (fun _ _=>rfl)) (@ja0 _) (star1 rfl)) (star1 rfl)) (star1 rfl))) (@ja0 _) (star1 rfl)) (star1 rfl))) (by rfl) (by rfl) (by rfl) (by rfl) (by rfl) (by rfl))) (fun _=>rfl)) (@jsc _ _ _ _ _ (@jfor _ _ _ _ _ _ _ _ PassesOwn.never rfl (@jiSeq _ _ _ _ (@jix _ _ _ _ _ _ (@jV _ 0 _ _ rfl (by walk_at "v")) (@ji _ _ _ _) (fun _ _=>rfl))) (@jgt _ _ _ _ _ _ rfl (@jgsc _ _ _ _ _ (@jg _ _ (4) _ Z0F.nd rfl (Or.inl rfl) (by walk_at "f")) (@jgsc _ _ _ _ _ (@jg _ _ (5) _ Z0F.nd rfl (Or.inl rfl) (by walk_at "f")) (@jgsc _ _ _ _ _ (@jg _ _ (6) _ Z0F.nd rfl (Or.inl rfl) (by walk_at "f")) (@jgs0 _) (by rfl)) (by rfl)) (by rfl)) (by rfl) (by rfl)) (@jsc _ _ _ _ _ (@jset _ _ _ _ (7) _ _ Z0F.nd rfl (Or.inl rfl) (@jtup _ _ _ _ _ (@ja _ _ _ _ _ (@jty _ _ _ _ _ _ _ _ _ ty_tuple rfl z_tuple boot_tuple (@ja _ _ _ _ _ (@jcomp _ _ _ _ _ _ _ (defScope Z0E) (["_law_a" , "_law_b"]) (["_law_yard_here" , "_law_triple_here" , "_law_shuts" , "_law_dials" , "_law_name" , "_law_plate_here" , "_law_tip_here" , "_law_moved_here"]) ([]) _ _ _ _ rfl rfl rfl (@jiZip _ _ _ _ _ _ _ _ _ rfl z_zip (@ja _ _ _ _ _ (@jix _ _ _ _ _ _ (@jV _ 5 _ _ rfl (by walk_at "v")) (@ji _ _ _ _) (fun _ _=>rfl)) (@ja _ _ _ _ _ (@jV _ 1 _ _ rfl (by walk_at "v")) (@ja0 _) (star1 rfl)) (star1 rfl)) (star1 rfl) (stars rfl)) rfl rfl (by decide +kernel) (by decide +kernel) (by decide +kernel) (by decide +kernel) (fun cl C s3 H2 ex=>(@jgt _ _ _ _ _ _ rfl (@jgsc _ _ _ _ _ (@jg _ _ (0) _ (show List.Nodup (["_law_a" , "_law_b"]:List Str) from by decide +kernel) rfl (Or.inl rfl) (by walk_at "f")) (@jgsc _ _ _ _ _ (@jg _ _ (1) _ (show List.Nodup (["_law_a" , "_law_b"]:List Str) from by decide +kernel) rfl (Or.inl rfl) (by walk_at "f")) (@jgs0 _) (by rfl)) (by rfl)) (by rfl) (by rfl))) (fun cl C s3 H2 ex=>(@jts0 _)) (fun cl C s3 H2 ex=>(@jop _ _ _ _ _ _ _ _ b_add (@jV _ 0 _ _ rfl (by walk_at "v")) (@jV _ 1 _ _ rfl (by walk_at "v")))) (fun _=>rfl)) (@ja0 _) (star1 rfl)) (by decide) (by decide) (star1 rfl) (stars rfl)) (@ja _ _ _ _ _ (@jix _ _ _ _ _ _ (@jV _ 5 _ _ rfl (by walk_at "v")) (@ji _ _ _ _) (fun _ _=>rfl)) (@ja _ _ _ _ _ (@jix _ _ _ _ _ _ (@jV _ 5 _ _ rfl (by walk_at "v")) (@ji _ _ _ _) (fun _ _=>rfl)) (@ja0 _) (star1 rfl)) (star1 rfl)) (star1 rfl))) (by rfl) (by walk_at "f")) (@js1 _ _ _ (@japp _ _ _ _ _ _ _ _ _ (pv 3) (@jtup _ _ _ _ _ (@ja _ _ _ _ _ (@jV _ 4 _ _ rfl (by walk_at "v")) (@ja _ _ _ _ _ (@jV _ 7 _ _ rfl (by walk_at "v")) (@ja _ _ _ _ _ (@jty _ _ _ _ _ _ _ _ _ ty_tuple rfl z_tuple boot_tuple (@ja _ _ _ _ _ (@jcomp _ _ _ _ _ _ _ (defScope Z0E) (["_law_a" , "_law_b"]) (["_law_yard_here" , "_law_triple_here" , "_law_shuts" , "_law_dials" , "_law_name" , "_law_plate_here" , "_law_tip_here" , "_law_moved_here"]) ([]) _ _ _ _ rfl rfl rfl (@jiZip _ _ _ _ _ _ _ _ _ rfl z_zip (@ja _ _ _ _ _ (@jV _ 6 _ _ rfl (by walk_at "v")) (@ja _ _ _ _ _ (@jV _ 1 _ _ rfl (by walk_at "v")) (@ja0 _) (star1 rfl)) (star1 rfl)) (star1 rfl) (stars rfl)) rfl rfl (by decide +kernel) (by decide +kernel) (by decide +kernel) (by decide +kernel) (fun cl C s3 H2 ex=>(@jgt _ _ _ _ _ _ rfl (@jgsc _ _ _ _ _ (@jg _ _ (0) _ (show List.Nodup (["_law_a" , "_law_b"]:List Str) from by decide +kernel) rfl (Or.inl rfl) (by walk_at "f")) (@jgsc _ _ _ _ _ (@jg _ _ (1) _ (show List.Nodup (["_law_a" , "_law_b"]:List Str) from by decide +kernel) rfl (Or.inl rfl) (by walk_at "f")) (@jgs0 _) (by rfl)) (by rfl)) (by rfl) (by rfl))) (fun cl C s3 H2 ex=>(@jts0 _)) (fun cl C s3 H2 ex=>(@jop _ _ _ _ _ _ _ _ b_add (@jV _ 0 _ _ rfl (by walk_at "v")) (@jV _ 1 _ _ rfl (by walk_at "v")))) (fun _=>rfl)) (@ja0 _) (star1 rfl)) (by decide) (by decide) (star1 rfl) (stars rfl)) (@ja0 _) (star1 rfl)) (star1 rfl)) (star1 rfl))) (by rfl) (by rfl) (by rfl) (by rfl) (by rfl) (by rfl)))) (fun _=>rfl)) (@jfrz _ _ 3 _ (@jfrz _ _ 2 _ (@js1 _ _ _ (@jret _ _ _ _ (@jtup _ _ _ _ _ (@ja _ _ _ _ _ (@jix _ _ _ _ _ _ (@jV _ 0 _ _ rfl (by walk_at "v")) (@ji _ _ _ _) (fun _ _=>rfl)) (@ja _ _ _ _ _ (@jV _ 2 _ _ rfl (by walk_at "v")) (@ja _ _ _ _ _ (@jV _ 3 _ _ rfl (by walk_at "v")) (@ja0 _) (star1 rfl)) (star1 rfl)) (star1 rfl)))))))))))) Z42)
abbrev Z0Q:Stmt:=top 43
theorem Z37:FnScope ["_law_found", "_law_due"] ["_law_found", "_law_due"] (defScope Z0Q):=by walk_at "s"
theorem Z38{f:Addr}{fd:FuncData} (F:Fun K "_law_alike" "_law_alike" Z0Q f fd) (m:mg "_law_alike" = some (.ref f)) (z_isinstance:mg "isinstance" = none) (z_int:mg "int" = none) (z_bool:mg "bool" = none) (z_str:mg "str" = none) (z_list:mg "list" = none) (z_tuple:mg "tuple" = none) (z_len:mg "len" = none) (z_zip:mg "zip" = none) (z_all:mg "all" = none):∀n,Cal P w K mg base (n + 1) "_law_alike" ["_law_found", "_law_due"] (Z0c n)
 | 0=>.mk F m (F.binds fun _ _ _ _ _ _ us hl=>args2 hl fun _ _=>rfl) (fnT0 (k:=0) F Z37 len0_L_alike no_L_alike)
 | n + 1=>by
  have Z1Z:=Z38 F m z_isinstance z_int z_bool z_str z_list z_tuple z_len z_zip z_all n
  exact .mk F m (F.binds fun _ _ _ _ _ _ us hl=>args2 hl fun _ _=>rfl) (fnT (k:=n + 1) (W:=Z2P (Z0c n)) F Z37 (Z3t (n + 1)) (fun cdv A outer s H E hr =>
  (@jsc _ _ _ _ _ (@jsif _ _ _ _ _ _ _ _ (@tval _ _ _ (@jisi _ _ _ _ .int _ _ _ (@jV _ 1 _ _ rfl (by walk_at "v")) rfl z_isinstance rfl z_int boot_int (by decide) (by decide) (star1 rfl) (star1 rfl) (stars rfl)) (fun _=>rfl)) (@js1 _ _ _ (@jret _ _ _ _ (@jand _ _ _ _ _ _ _ (@jisi _ _ _ _ .int _ _ _ (@jV _ 0 _ _ rfl (by walk_at "v")) rfl z_isinstance rfl z_int boot_int (by decide) (by decide) (star1 rfl) (star1 rfl) (stars rfl)) (@jand _ _ _ _ _ _ _ (@jnot _ _ _ _ (@jisi _ _ _ _ .bool _ _ _ (@jV _ 0 _ _ rfl (by walk_at "v")) rfl z_isinstance rfl z_bool boot_bool (by decide) (by decide) (star1 rfl) (star1 rfl) (stars rfl))) (@jone _ _ _ _ _ (@jcmp _ _ _ _ _ _ _ _ (c_eq hr) (@jV _ 0 _ _ rfl (by walk_at "v")) (@jV _ 1 _ _ rfl (by walk_at "v")) (nomark _))))))) (@js0 _)) (@jsc _ _ _ _ _ (@jsif _ _ _ _ _ _ _ _ (@tval _ _ _ (@jisi _ _ _ _ .str _ _ _ (@jV _ 1 _ _ rfl (by walk_at "v")) rfl z_isinstance rfl z_str boot_str (by decide) (by decide) (star1 rfl) (star1 rfl) (stars rfl)) (fun _=>rfl)) (@js1 _ _ _ (@jret _ _ _ _ (@jand _ _ _ _ _ _ _ (@jisi _ _ _ _ .str _ _ _ (@jV _ 0 _ _ rfl (by walk_at "v")) rfl z_isinstance rfl z_str boot_str (by decide) (by decide) (star1 rfl) (star1 rfl) (stars rfl)) (@jone _ _ _ _ _ (@jcmp _ _ _ _ _ _ _ _ (c_eq hr) (@jV _ 0 _ _ rfl (by walk_at "v")) (@jV _ 1 _ _ rfl (by walk_at "v")) (nomark _)))))) (@js0 _)) (@jsc _ _ _ _ _ (@jsif _ _ _ _ _ _ _ _ (@jw _ _ _ (@tor _ _ _ _ _ _ _ (@tcmp _ _ _ _ _ _ _ _ (c_ne hr) (@jisi _ _ _ _ .list _ _ _ (@jV _ 1 _ _ rfl (by walk_at "v")) rfl z_isinstance rfl z_list boot_list (by decide) (by decide) (star1 rfl) (star1 rfl) (stars rfl)) (@jisi _ _ _ _ .list _ _ _ (@jV _ 0 _ _ rfl (by walk_at "v")) rfl z_isinstance rfl z_list boot_list (by decide) (by decide) (star1 rfl) (star1 rfl) (stars rfl)) (nomark _)) (@tor1 _ _ _ _ (@tcmp _ _ _ _ _ _ _ _ (c_ne hr) (@jisi _ _ _ _ .tuple _ _ _ (@jV _ 1 _ _ rfl (by walk_at "v")) rfl z_isinstance rfl z_tuple boot_tuple (by decide) (by decide) (star1 rfl) (star1 rfl) (stars rfl)) (@jisi _ _ _ _ .tuple _ _ _ (@jV _ 0 _ _ rfl (by walk_at "v")) rfl z_isinstance rfl z_tuple boot_tuple (by decide) (by decide) (star1 rfl) (star1 rfl) (stars rfl)) (nomark _))))) (@js1 _ _ _ (@jret _ _ _ _ (@jb _ _ _ _))) (@js0 _)) (@js1 _ _ _ (@jret _ _ _ _ (@jand _ _ _ _ _ _ _ (@jcmp _ _ _ _ _ _ _ _ (c_eq hr) (@jblt _ _ _ _ _ _ _ _ _ bl_len rfl z_len boot_len (@ja _ _ _ _ _ (@jV _ 0 _ _ rfl (by walk_at "v")) (@ja0 _) (star1 rfl)) (by decide) (by decide) (star1 rfl) (stars rfl)) (@jblt _ _ _ _ _ _ _ _ _ bl_len rfl z_len boot_len (@ja _ _ _ _ _ (@jV _ 1 _ _ rfl (by walk_at "v")) (@ja0 _) (star1 rfl)) (by decide) (by decide) (star1 rfl) (stars rfl)) (nomark _)) (@jone _ _ _ _ _ (@jblt _ _ _ _ _ _ _ _ _ (bl_all rfl) rfl z_all boot_all (@ja _ _ _ _ _ (@jcomp _ _ _ _ _ _ _ (defScope Z0Q) (["_law_one" , "_law_other"]) (["_law_found" , "_law_due"]) ([]) _ _ _ _ rfl rfl rfl (@jiZip _ _ _ _ _ _ _ _ _ rfl z_zip (@ja _ _ _ _ _ (@jV _ 0 _ _ rfl (by walk_at "v")) (@ja _ _ _ _ _ (@jV _ 1 _ _ rfl (by walk_at "v")) (@ja0 _) (star1 rfl)) (star1 rfl)) (star1 rfl) (stars rfl)) rfl rfl (by decide +kernel) (by decide +kernel) (by decide +kernel) (by decide +kernel) (fun cl C s3 H2 ex=>(@jgt _ _ _ _ _ _ rfl (@jgsc _ _ _ _ _ (@jg _ _ (0) _ (show List.Nodup (["_law_one" , "_law_other"]:List Str) from by decide +kernel) rfl (Or.inl rfl) (by walk_at "f")) (@jgsc _ _ _ _ _ (@jg _ _ (1) _ (show List.Nodup (["_law_one" , "_law_other"]:List Str) from by decide +kernel) rfl (Or.inl rfl) (by walk_at "f")) (@jgs0 _) (by rfl)) (by rfl)) (by rfl) (by rfl))) (fun cl C s3 H2 ex=>(@jts0 _)) (fun cl C s3 H2 ex=>(@jcallC _ _ _ _ _ _ _ _ _ _ Z1Z (hr.mono (by omega)) rfl (@ja _ _ _ _ _ (@jV _ 0 _ _ rfl (by walk_at "v")) (@ja _ _ _ _ _ (@jV _ 1 _ _ rfl (by walk_at "v")) (@ja0 _) (star1 rfl)) (star1 rfl)) (by decide) (star1 rfl) (stars rfl))) (fun _=>rfl)) (@ja0 _) (star1 rfl)) (by decide) (by decide) (star1 rfl) (stars rfl)))))))))) (Z45 n))
theorem Z4e{f:Addr}{fd:FuncData} (F:Fun K "_law_alike" "_law_alike" Z0Q f fd) (m:mg "_law_alike" = some (.ref f)) (z_isinstance:mg "isinstance" = none) (z_int:mg "int" = none) (z_bool:mg "bool" = none) (z_str:mg "str" = none) (z_list:mg "list" = none) (z_tuple:mg "tuple" = none) (z_len:mg "len" = none) (z_zip:mg "zip" = none) (z_all:mg "all" = none):Cal P w K mg base 9 "_law_alike" ["_law_found", "_law_due"] Z1I:=Z38 F m z_isinstance z_int z_bool z_str z_list z_tuple z_len z_zip z_all 8
abbrev Z1R:Stmt:=top 50
theorem Z3y:FnScope ["_law_found", "_law_due", "_law_some"] ["_law_found", "_law_due"] (defScope Z1R):=by walk_at "s"
theorem Z4p{f:Addr}{fd:FuncData} (F:Fun K "_law_fits" "_law_fits" Z1R f fd) (m:mg "_law_fits" = some (.ref f)) (Z17:Cal P w K mg base 1 "_law_numbers" ["_law_yard_here"] Z0e) (Z1Z:Cal P w K mg base 9 "_law_alike" ["_law_found", "_law_due"] Z1I) (z_max:mg "max" = none) (z_min:mg "min" = none):Cal P w K mg base 10 "_law_fits" ["_law_found", "_law_due"] Z0J :=
 .mk F m (F.binds fun _ _ _ _ _ _ us hl=>args2 hl fun _ _=>rfl) (fnT (W:=Z3h) F Z3y Z46 (fun cdv A outer s H E hr =>
  (@jsc _ _ _ _ _ (@jset _ _ _ _ (2) _ _ Z3y.nd rfl (Or.inl rfl) (@jcallC _ _ _ _ _ _ _ _ _ _ Z17 (hr.mono (by omega)) rfl (@ja _ _ _ _ _ (@jV _ 1 _ _ rfl (by walk_at "v")) (@ja0 _) (star1 rfl)) (by decide) (star1 rfl) (stars rfl)) (by rfl) (by walk_at "f")) (@jsc _ _ _ _ _ (@jsif _ _ _ _ _ _ _ _ (@jw _ _ _ (@tor _ _ _ _ _ _ _ (@tcmp _ _ _ _ _ _ _ _ c_gt (@jblt _ _ _ _ _ _ _ _ _ (bl_maxL rfl) rfl z_max boot_max (@ja _ _ _ _ _ (@jV _ 2 _ _ rfl (by walk_at "v")) (@ja0 _) (star1 rfl)) (by decide) (by decide) (star1 rfl) (stars rfl)) (@jop _ _ _ _ _ _ _ _ b_pow (@ji _ _ _ _) (@ji _ _ _ _)) (nomark _)) (@tor1 _ _ _ _ (@tcmp _ _ _ _ _ _ _ _ c_lt (@jblt _ _ _ _ _ _ _ _ _ (bl_minL rfl) rfl z_min boot_min (@ja _ _ _ _ _ (@jV _ 2 _ _ rfl (by walk_at "v")) (@ja0 _) (star1 rfl)) (by decide) (by decide) (star1 rfl) (stars rfl)) (@jop _ _ _ _ _ _ _ _ b_sub (@ji _ _ _ _) (@jop _ _ _ _ _ _ _ _ b_pow (@ji _ _ _ _) (@ji _ _ _ _))) (nomark _))))) (@js1 _ _ _ (@jret _ _ _ _ (@jcmp _ _ _ _ _ _ _ _ (c_eq hr) (@jV _ 0 _ _ rfl (by walk_at "v")) (@js _ _ _ _) (nomark _)))) (@js0 _)) (@js1 _ _ _ (@jret _ _ _ _ (@jcallC _ _ _ _ _ _ _ _ _ _ Z1Z (hr.mono (by omega)) rfl (@ja _ _ _ _ _ (@jV _ 0 _ _ rfl (by walk_at "v")) (@ja _ _ _ _ _ (@jV _ 1 _ _ rfl (by walk_at "v")) (@ja0 _) (star1 rfl)) (star1 rfl)) (by decide) (star1 rfl) (stars rfl))))))) Z4l)
abbrev Z0p:Stmt:=top 45
theorem Z0j:FnScope ["_law_yard_here", "_law_many", "_law_shuts", "_law_dials", "_law_name", "_law_plate_here", "_law_tip_here", "_law_grown"] ["_law_yard_here", "_law_many"] (defScope Z0p):=by walk_at "s"
theorem Z3z{f:Addr}{fd:FuncData} (F:Fun K "_law_greater" "_law_greater" Z0p f fd) (m:mg "_law_greater" = some (.ref f)) (z_tuple:mg "tuple" = none):Cal P w K mg base 1 "_law_greater" ["_law_yard_here", "_law_many"] Z0o :=
 .mk F m (F.binds fun _ _ _ _ _ _ us hl=>args2 hl fun _ _=>rfl) (fnT (W:=Z2c) F Z0j Z3f (fun cdv A outer s H E hr =>
  (@jsc _ _ _ _ _ (@jown _ _ _ _ (2) _ _ _ Z0j.nd rfl (Or.inl rfl) (@ja0 _) (by rfl) (by walk_at "f")) (@jsc _ _ _ _ _ (@jown _ _ _ _ (3) _ _ _ Z0j.nd rfl (Or.inl rfl) (@ja0 _) (by rfl) (by walk_at "f")) (@jsc _ _ _ _ _ (@jfor _ _ _ _ _ _ _ _ PassesOwn.never rfl (@jiSeq _ _ _ _ (@jix _ _ _ _ _ _ (@jV _ 0 _ _ rfl (by walk_at "v")) (@ji _ _ _ _) (fun _ _=>rfl))) (@jgt _ _ _ _ _ _ rfl (@jgsc _ _ _ _ _ (@jg _ _ (4) _ Z0j.nd rfl (Or.inl rfl) (by walk_at "f")) (@jgsc _ _ _ _ _ (@jg _ _ (5) _ Z0j.nd rfl (Or.inl rfl) (by walk_at "f")) (@jgs0 _) (by rfl)) (by rfl)) (by rfl) (by rfl)) (@js1 _ _ _ (@japp _ _ _ _ _ _ _ _ _ (pv 2) (@jtup _ _ _ _ _ (@ja _ _ _ _ _ (@jV _ 4 _ _ rfl (by walk_at "v")) (@ja _ _ _ _ _ (@jty _ _ _ _ _ _ _ _ _ ty_tuple rfl z_tuple boot_tuple (@ja _ _ _ _ _ (@jcomp _ _ _ _ _ _ _ (defScope Z0p) (["_law_x" , "_law_y" , "_law_z"]) (["_law_yard_here" , "_law_many" , "_law_shuts" , "_law_dials" , "_law_name" , "_law_plate_here" , "_law_tip_here" , "_law_grown"]) ([("_law_many" , 1)]) _ _ _ _ rfl rfl rfl (@jiSeq _ _ _ _ (@jV _ 5 _ _ rfl (by walk_at "v"))) rfl rfl (by decide +kernel) (by decide +kernel) (by decide +kernel) (by decide +kernel) (fun cl C s3 H2 ex=>(@jgt _ _ _ _ _ _ rfl (@jgsc _ _ _ _ _ (@jg _ _ (0) _ (show List.Nodup (["_law_x" , "_law_y" , "_law_z" , "_law_many"]:List Str) from by decide +kernel) rfl (Or.inl rfl) (by walk_at "f")) (@jgsc _ _ _ _ _ (@jg _ _ (1) _ (show List.Nodup (["_law_x" , "_law_y" , "_law_z" , "_law_many"]:List Str) from by decide +kernel) rfl (Or.inl rfl) (by walk_at "f")) (@jgsc _ _ _ _ _ (@jg _ _ (2) _ (show List.Nodup (["_law_x" , "_law_y" , "_law_z" , "_law_many"]:List Str) from by decide +kernel) rfl (Or.inl rfl) (by walk_at "f")) (@jgs0 _) (by rfl)) (by rfl)) (by rfl)) (by rfl) (by rfl))) (fun cl C s3 H2 ex=>(@jts0 _)) (fun cl C s3 H2 ex=>(@jtup _ _ _ _ _ (@ja _ _ _ _ _ (@jop _ _ _ _ _ _ _ _ b_mul (@jV _ 3 _ _ rfl (by walk_at "v")) (@jV _ 0 _ _ rfl (by walk_at "v"))) (@ja _ _ _ _ _ (@jop _ _ _ _ _ _ _ _ b_mul (@jV _ 3 _ _ rfl (by walk_at "v")) (@jV _ 1 _ _ rfl (by walk_at "v"))) (@ja _ _ _ _ _ (@jop _ _ _ _ _ _ _ _ b_mul (@jV _ 3 _ _ rfl (by walk_at "v")) (@jV _ 2 _ _ rfl (by walk_at "v"))) (@ja0 _) (star1 rfl)) (star1 rfl)) (star1 rfl)))) (fun _=>rfl)) (@ja0 _) (star1 rfl)) (by decide) (by decide) (star1 rfl) (stars rfl)) (@ja0 _) (star1 rfl)) (star1 rfl))) (by rfl) (by rfl) (by rfl) (by rfl) (by rfl) (by rfl))) (fun _=>rfl)) (@jsc _ _ _ _ _ (@jfor _ _ _ _ _ _ _ _ PassesOwn.never rfl (@jiSeq _ _ _ _ (@jix _ _ _ _ _ _ (@jV _ 0 _ _ rfl (by walk_at "v")) (@ji _ _ _ _) (fun _ _=>rfl))) (@jgt _ _ _ _ _ _ rfl (@jgsc _ _ _ _ _ (@jg _ _ (4) _ Z0j.nd rfl (Or.inl rfl) (by walk_at "f")) (@jgsc _ _ _ _ _ (@jg _ _ (5) _ Z0j.nd rfl (Or.inl rfl) (by walk_at "f")) (@jgsc _ _ _ _ _ (@jg _ _ (6) _ Z0j.nd rfl (Or.inl rfl) (by walk_at "f")) (@jgs0 _) (by rfl)) (by rfl)) (by rfl)) (by rfl) (by rfl)) (@jsc _ _ _ _ _ (@jset _ _ _ _ (7) _ _ Z0j.nd rfl (Or.inl rfl) (@jty _ _ _ _ _ _ _ _ _ ty_tuple rfl z_tuple boot_tuple (@ja _ _ _ _ _ (@jcomp _ _ _ _ _ _ _ (defScope Z0p) (["_law_x" , "_law_y" , "_law_z"]) (["_law_yard_here" , "_law_many" , "_law_shuts" , "_law_dials" , "_law_name" , "_law_plate_here" , "_law_tip_here" , "_law_grown"]) ([("_law_many" , 1)]) _ _ _ _ rfl rfl rfl (@jiSeq _ _ _ _ (@jop _ _ _ _ _ _ _ _ b_cat (@jV _ 5 _ _ rfl (by walk_at "v")) (@jtup _ _ _ _ _ (@ja _ _ _ _ _ (@jV _ 6 _ _ rfl (by walk_at "v")) (@ja0 _) (star1 rfl))))) rfl rfl (by decide +kernel) (by decide +kernel) (by decide +kernel) (by decide +kernel) (fun cl C s3 H2 ex=>(@jgt _ _ _ _ _ _ rfl (@jgsc _ _ _ _ _ (@jg _ _ (0) _ (show List.Nodup (["_law_x" , "_law_y" , "_law_z" , "_law_many"]:List Str) from by decide +kernel) rfl (Or.inl rfl) (by walk_at "f")) (@jgsc _ _ _ _ _ (@jg _ _ (1) _ (show List.Nodup (["_law_x" , "_law_y" , "_law_z" , "_law_many"]:List Str) from by decide +kernel) rfl (Or.inl rfl) (by walk_at "f")) (@jgsc _ _ _ _ _ (@jg _ _ (2) _ (show List.Nodup (["_law_x" , "_law_y" , "_law_z" , "_law_many"]:List Str) from by decide +kernel) rfl (Or.inl rfl) (by walk_at "f")) (@jgs0 _) (by rfl)) (by rfl)) (by rfl)) (by rfl) (by rfl))) (fun cl C s3 H2 ex=>(@jts0 _)) (fun cl C s3 H2 ex=>(@jtup _ _ _ _ _ (@ja _ _ _ _ _ (@jop _ _ _ _ _ _ _ _ b_mul (@jV _ 3 _ _ rfl (by walk_at "v")) (@jV _ 0 _ _ rfl (by walk_at "v"))) (@ja _ _ _ _ _ (@jop _ _ _ _ _ _ _ _ b_mul (@jV _ 3 _ _ rfl (by walk_at "v")) (@jV _ 1 _ _ rfl (by walk_at "v"))) (@ja _ _ _ _ _ (@jop _ _ _ _ _ _ _ _ b_mul (@jV _ 3 _ _ rfl (by walk_at "v")) (@jV _ 2 _ _ rfl (by walk_at "v"))) (@ja0 _) (star1 rfl)) (star1 rfl)) (star1 rfl)))) (fun _=>rfl)) (@ja0 _) (star1 rfl)) (by decide) (by decide) (star1 rfl) (stars rfl)) (by rfl) (by walk_at "f")) (@js1 _ _ _ (@japp _ _ _ _ _ _ _ _ _ (pv 3) (@jtup _ _ _ _ _ (@ja _ _ _ _ _ (@jV _ 4 _ _ rfl (by walk_at "v")) (@ja _ _ _ _ _ (@jsl _ _ _ _ _ _ _ _ _ (@jV _ 7 _ _ rfl (by walk_at "v")) (@jo0 _) (@jo _ _ _ (@ji _ _ _ _))) (@ja _ _ _ _ _ (@jix _ _ _ _ _ _ (@jV _ 7 _ _ rfl (by walk_at "v")) (@ji _ _ _ _) (fun _ _=>rfl)) (@ja0 _) (star1 rfl)) (star1 rfl)) (star1 rfl))) (by rfl) (by rfl) (by rfl) (by rfl) (by rfl) (by rfl)))) (fun _=>rfl)) (@jfrz _ _ 3 _ (@jfrz _ _ 2 _ (@js1 _ _ _ (@jret _ _ _ _ (@jtup _ _ _ _ _ (@ja _ _ _ _ _ (@jix _ _ _ _ _ _ (@jV _ 0 _ _ rfl (by walk_at "v")) (@ji _ _ _ _) (fun _ _=>rfl)) (@ja _ _ _ _ _ (@jV _ 2 _ _ rfl (by walk_at "v")) (@ja _ _ _ _ _ (@jV _ 3 _ _ rfl (by walk_at "v")) (@ja0 _) (star1 rfl)) (star1 rfl)) (star1 rfl)))))))))))) Z3r)
abbrev Z0U:Stmt:=top 51
theorem Z0V:FnScope ["_law_script", "_law_yard_here", "_law_triple_here", "_law_most", "_law_cell", "_law_reach", "_law_many", "_law_handed", "_law_moved_here", "_law_some", "_law_told_here", "_law_part"] ["_law_script"] (defScope Z0U):=by walk_at "s"
theorem Z4y{f:Addr}{fd:FuncData} (F:Fun K "law" "law" Z0U f fd) (Z3l:Cal P w K mg base 5 "_law_yard" ["_law_script"] Z1s) (Z0y:Cal P w K mg base 1 "_law_cell_at" ["_law_script", "_law_k"] Z0b) (Z30:Cal P w K mg base 2 "_law_drawn" ["_law_yard_here", "_law_cell"] Z0Z) (Z17:Cal P w K mg base 1 "_law_numbers" ["_law_yard_here"] Z0e) (Z03:Cal P w K mg base 1 "_law_draw" ["_law_cell", "_law_k", "_law_many"] Z00) (Z2D:CalG0 P w K mg base 8 "_law_told" ["_law_way", "_law_yard_here", "_law_more"] Z0x) (Z31:Cal P w K mg base 1 "_law_moved" ["_law_yard_here", "_law_triple_here"] Z0M) (Z2E:Cal P w K mg base 10 "_law_fits" ["_law_found", "_law_due"] Z0J) (Z2g:Cal P w K mg base 1 "_law_greater" ["_law_yard_here", "_law_many"] Z0o) (Z0l:CalGN P w K mg base 7 "moved_yard" ["yard", "triple"] Z01) (Z0i:CalGN P w K mg base 7 "greater_yard" ["yard", "many"] Z02) (z_abs:mg "abs" = none) (z_max:mg "max" = none) (z_min:mg "min" = none) (z_list:mg "list" = none) (z_tuple:mg "tuple" = none):FnT P w K mg base 11 f fd ["_law_script"] lawSp :=
 fnT (W:=Z3N) F Z0V len_law (fun cdv A outer s H E hr =>
  (@jsc _ _ _ _ _ (@jset _ _ _ _ (1) _ _ Z0V.nd rfl (Or.inl rfl) (@jcallC _ _ _ _ _ _ _ _ _ _ Z3l (hr.mono (by omega)) rfl (@ja _ _ _ _ _ (@jV _ 0 _ _ rfl (by walk_at "v")) (@ja0 _) (star1 rfl)) (by decide) (star1 rfl) (stars rfl)) (by rfl) (by walk_at "f")) (@jsc _ _ _ _ _ (@jset _ _ _ _ (2) _ _ Z0V.nd rfl (Or.inl rfl) (@jcallC _ _ _ _ _ _ _ _ _ _ Z30 (hr.mono (by omega)) rfl (@ja _ _ _ _ _ (@jV _ 1 _ _ rfl (by walk_at "v")) (@ja _ _ _ _ _ (@jcallC _ _ _ _ _ _ _ _ _ _ Z0y (hr.mono (by omega)) rfl (@ja _ _ _ _ _ (@jV _ 0 _ _ rfl (by walk_at "v")) (@ja _ _ _ _ _ (@ji _ _ _ _) (@ja0 _) (star1 rfl)) (star1 rfl)) (by decide) (star1 rfl) (stars rfl)) (@ja0 _) (star1 rfl)) (star1 rfl)) (by decide) (star1 rfl) (stars rfl)) (by rfl) (by walk_at "f")) (@jsc _ _ _ _ _ (@jset _ _ _ _ (3) _ _ Z0V.nd rfl (Or.inl rfl) (@jblt _ _ _ _ _ _ _ _ _ (bl_maxL rfl) rfl z_max boot_max (@ja _ _ _ _ _ (@jcomp _ _ _ _ _ _ _ (defScope Z0U) (["_law_number_here"]) (["_law_script" , "_law_yard_here" , "_law_triple_here" , "_law_most" , "_law_cell" , "_law_reach" , "_law_many" , "_law_handed" , "_law_moved_here" , "_law_some" , "_law_told_here" , "_law_part"]) ([]) _ _ _ _ rfl rfl rfl (@jiSeq _ _ _ _ (@jcallC _ _ _ _ _ _ _ _ _ _ Z17 (hr.mono (by omega)) rfl (@ja _ _ _ _ _ (@jV _ 1 _ _ rfl (by walk_at "v")) (@ja0 _) (star1 rfl)) (by decide) (star1 rfl) (stars rfl))) rfl rfl (by decide +kernel) (by decide +kernel) (by decide +kernel) (by decide +kernel) (fun cl C s3 H2 ex=>(@jg _ _ (0) _ (show List.Nodup (["_law_number_here"]:List Str) from by decide +kernel) rfl (Or.inl rfl) (by walk_at "f"))) (fun cl C s3 H2 ex=>(@jts0 _)) (fun cl C s3 H2 ex=>(@jblt _ _ _ _ _ _ _ _ _ bl_abs rfl z_abs boot_abs (@ja _ _ _ _ _ (@jV _ 0 _ _ rfl (by walk_at "v")) (@ja0 _) (star1 rfl)) (by decide) (by decide) (star1 rfl) (stars rfl))) (fun _=>rfl)) (@ja0 _) (star1 rfl)) (by decide) (by decide) (star1 rfl) (stars rfl)) (by rfl) (by walk_at "f")) (@jsc _ _ _ _ _ (@jset _ _ _ _ (4) _ _ Z0V.nd rfl (Or.inl rfl) (@jcallC _ _ _ _ _ _ _ _ _ _ Z0y (hr.mono (by omega)) rfl (@ja _ _ _ _ _ (@jV _ 0 _ _ rfl (by walk_at "v")) (@ja _ _ _ _ _ (@ji _ _ _ _) (@ja0 _) (star1 rfl)) (star1 rfl)) (by decide) (star1 rfl) (stars rfl)) (by rfl) (by walk_at "f")) (@jsc _ _ _ _ _ (@jset _ _ _ _ (5) _ _ Z0V.nd rfl (Or.inl rfl) (@jblt _ _ _ _ _ _ _ _ _ (bl_min rfl) rfl z_min boot_min (@ja _ _ _ _ _ (@ji _ _ _ _) (@ja _ _ _ _ _ (@jop _ _ _ _ _ _ _ _ b_div (@jop _ _ _ _ _ _ _ _ b_pow (@ji _ _ _ _) (@ji _ _ _ _)) (@jblt _ _ _ _ _ _ _ _ _ (bl_max rfl) rfl z_max boot_max (@ja _ _ _ _ _ (@ji _ _ _ _) (@ja _ _ _ _ _ (@jV _ 3 _ _ rfl (by walk_at "v")) (@ja0 _) (star1 rfl)) (star1 rfl)) (by decide) (by decide) (star1 rfl) (stars rfl))) (@ja0 _) (star1 rfl)) (star1 rfl)) (by decide) (by decide) (star1 rfl) (stars rfl)) (by rfl) (by walk_at "f")) (@jsc _ _ _ _ _ (@jset _ _ _ _ (6) _ _ Z0V.nd rfl (Or.inl rfl) (@jix _ _ _ _ _ _ (@jlst _ _ _ _ (@ja _ _ _ _ _ (@jop _ _ _ _ _ _ _ _ b_add (@ji _ _ _ _) (@jcallC _ _ _ _ _ _ _ _ _ _ Z03 (hr.mono (by omega)) rfl (@ja _ _ _ _ _ (@jV _ 4 _ _ rfl (by walk_at "v")) (@ja _ _ _ _ _ (@ji _ _ _ _) (@ja _ _ _ _ _ (@ji _ _ _ _) (@ja0 _) (star1 rfl)) (star1 rfl)) (star1 rfl)) (by decide) (star1 rfl) (stars rfl))) (@ja _ _ _ _ _ (@jblt _ _ _ _ _ _ _ _ _ (bl_max rfl) rfl z_max boot_max (@ja _ _ _ _ _ (@ji _ _ _ _) (@ja _ _ _ _ _ (@jV _ 5 _ _ rfl (by walk_at "v")) (@ja0 _) (star1 rfl)) (star1 rfl)) (by decide) (by decide) (star1 rfl) (stars rfl)) (@ja _ _ _ _ _ (@jblt _ _ _ _ _ _ _ _ _ (bl_min rfl) rfl z_min boot_min (@ja _ _ _ _ _ (@ji _ _ _ _) (@ja _ _ _ _ _ (@jop _ _ _ _ _ _ _ _ b_add (@jV _ 5 _ _ rfl (by walk_at "v")) (@ji _ _ _ _)) (@ja0 _) (star1 rfl)) (star1 rfl)) (by decide) (by decide) (star1 rfl) (stars rfl)) (@ja0 _) (star1 rfl)) (star1 rfl)) (star1 rfl))) (@jcallC _ _ _ _ _ _ _ _ _ _ Z03 (hr.mono (by omega)) rfl (@ja _ _ _ _ _ (@jV _ 4 _ _ rfl (by walk_at "v")) (@ja _ _ _ _ _ (@ji _ _ _ _) (@ja _ _ _ _ _ (@ji _ _ _ _) (@ja0 _) (star1 rfl)) (star1 rfl)) (star1 rfl)) (by decide) (star1 rfl) (stars rfl)) (fun _ _=>rfl)) (by rfl) (by walk_at "f")) (@jsc _ _ _ _ _ (@jset _ _ _ _ (7) _ _ Z0V.nd rfl (Or.inl rfl) (@jtup _ _ _ _ _ (@ja _ _ _ _ _ (@jty _ _ _ _ _ _ _ _ _ ty_list rfl z_list boot_list (@ja _ _ _ _ _ (@jix _ _ _ _ _ _ (@jV _ 1 _ _ rfl (by walk_at "v")) (@ji _ _ _ _) (fun _ _=>rfl)) (@ja0 _) (star1 rfl)) (by decide) (by decide) (star1 rfl) (stars rfl)) (@ja _ _ _ _ _ (@jty _ _ _ _ _ _ _ _ _ ty_list rfl z_list boot_list (@ja _ _ _ _ _ (@jix _ _ _ _ _ _ (@jV _ 1 _ _ rfl (by walk_at "v")) (@ji _ _ _ _) (fun _ _=>rfl)) (@ja0 _) (star1 rfl)) (by decide) (by decide) (star1 rfl) (stars rfl)) (@ja _ _ _ _ _ (@jty _ _ _ _ _ _ _ _ _ ty_list rfl z_list boot_list (@ja _ _ _ _ _ (@jix _ _ _ _ _ _ (@jV _ 1 _ _ rfl (by walk_at "v")) (@ji _ _ _ _) (fun _ _=>rfl)) (@ja0 _) (star1 rfl)) (by decide) (by decide) (star1 rfl) (stars rfl)) (@ja0 _) (star1 rfl)) (star1 rfl)) (star1 rfl))) (by rfl) (by walk_at "f")) (@jg_ent _ _ _ (@jg_c _ _ _ _ _ (@jg_born _ _ _ _ (8) _ _ Z0V.nd rfl (Or.inl rfl) (@jge_call0 _ _ _ _ _ _ _ _ _ _ Z2D (hr.mono (by omega)) rfl (@ja _ _ _ _ _ (@ji _ _ _ _) (@ja _ _ _ _ _ (@jV _ 7 _ _ rfl (by walk_at "v")) (@ja _ _ _ _ _ (@jV _ 2 _ _ rfl (by walk_at "v")) (@ja0 _) (star1 rfl)) (star1 rfl)) (star1 rfl)) (by decide) (star1 rfl) (stars rfl)) (by rfl) (by walk_at "f")) (@jg_c _ _ _ _ _ (@jg_if _ _ _ _ _ _ _ _ (@jw _ _ _ (@tor _ _ _ _ _ _ _ (@tnot _ _ _ _ (@tval _ _ _ (@jcallC _ _ _ _ _ _ _ _ _ _ Z2E (hr.mono (by omega)) rfl (@ja _ _ _ _ _ (@jV _ 8 _ _ rfl (by walk_at "v")) (@ja _ _ _ _ _ (@jcallC _ _ _ _ _ _ _ _ _ _ Z31 (hr.mono (by omega)) rfl (@ja _ _ _ _ _ (@jV _ 1 _ _ rfl (by walk_at "v")) (@ja _ _ _ _ _ (@jV _ 2 _ _ rfl (by walk_at "v")) (@ja0 _) (star1 rfl)) (star1 rfl)) (by decide) (star1 rfl) (stars rfl)) (@ja0 _) (star1 rfl)) (star1 rfl)) (by decide) (star1 rfl) (stars rfl)) (fun _=>rfl))) (@tor1 _ _ _ _ (@tcmp _ _ _ _ _ _ _ _ (c_ne hr) (@jV _ 7 _ _ rfl (by walk_at "v")) (@jV _ 1 _ _ rfl (by walk_at "v")) (nomark _))))) (@jg_1 _ _ _ (@jg_ret _ _ _ _ (@jb _ _ _ _))) (@jg_0 _)) (@jg_c _ _ _ _ _ (@jg_if _ _ _ _ _ _ _ _ (@jw _ _ _ (@tor _ _ _ _ _ _ _ (@tnot _ _ _ _ (@tval _ _ _ (@jcallC _ _ _ _ _ _ _ _ _ _ Z2E (hr.mono (by omega)) rfl (@ja _ _ _ _ _ (@jcallC _ _ _ _ _ _ _ _ _ _ (CalG0.t Z2D) (hr.mono (by omega)) rfl (@ja _ _ _ _ _ (@ji _ _ _ _) (@ja _ _ _ _ _ (@jV _ 7 _ _ rfl (by walk_at "v")) (@ja _ _ _ _ _ (@jV _ 6 _ _ rfl (by walk_at "v")) (@ja0 _) (star1 rfl)) (star1 rfl)) (star1 rfl)) (by decide) (star1 rfl) (stars rfl)) (@ja _ _ _ _ _ (@jcallC _ _ _ _ _ _ _ _ _ _ Z2g (hr.mono (by omega)) rfl (@ja _ _ _ _ _ (@jV _ 1 _ _ rfl (by walk_at "v")) (@ja _ _ _ _ _ (@jV _ 6 _ _ rfl (by walk_at "v")) (@ja0 _) (star1 rfl)) (star1 rfl)) (by decide) (star1 rfl) (stars rfl)) (@ja0 _) (star1 rfl)) (star1 rfl)) (by decide) (star1 rfl) (stars rfl)) (fun _=>rfl))) (@tor1 _ _ _ _ (@tcmp _ _ _ _ _ _ _ _ (c_ne hr) (@jV _ 7 _ _ rfl (by walk_at "v")) (@jV _ 1 _ _ rfl (by walk_at "v")) (nomark _))))) (@jg_1 _ _ _ (@jg_ret _ _ _ _ (@jb _ _ _ _))) (@jg_0 _)) (@jg_c _ _ _ _ _ (@jg_if _ _ _ _ _ _ _ _ (@jw _ _ _ (@tand _ _ _ _ _ _ _ (@tcmp _ _ _ _ _ _ _ _ (c_ne hr) (@jV _ 8 _ _ rfl (by walk_at "v")) (@js _ _ _ _) (nomark _)) (@tand1 _ _ _ _ (@tcmp _ _ _ _ _ _ _ _ (c_ne hr) (@jcallC _ _ _ _ _ _ _ _ _ _ (CalX.calm (CalGN.x Z0l)) (hr.mono (by omega)) rfl (@ja _ _ _ _ _ (@jV _ 8 _ _ rfl (by walk_at "v")) (@ja _ _ _ _ _ (@jty _ _ _ _ _ _ _ _ _ ty_tuple rfl z_tuple boot_tuple (@ja _ _ _ _ _ (@jcomp _ _ _ _ _ _ _ (defScope Z0U) (["_law_one"]) (["_law_script" , "_law_yard_here" , "_law_triple_here" , "_law_most" , "_law_cell" , "_law_reach" , "_law_many" , "_law_handed" , "_law_moved_here" , "_law_some" , "_law_told_here" , "_law_part"]) ([]) _ _ _ _ rfl rfl rfl (@jiSeq _ _ _ _ (@jV _ 2 _ _ rfl (by walk_at "v"))) rfl rfl (by decide +kernel) (by decide +kernel) (by decide +kernel) (by decide +kernel) (fun cl C s3 H2 ex=>(@jg _ _ (0) _ (show List.Nodup (["_law_one"]:List Str) from by decide +kernel) rfl (Or.inl rfl) (by walk_at "f"))) (fun cl C s3 H2 ex=>(@jts0 _)) (fun cl C s3 H2 ex=>(@jop _ _ _ _ _ _ _ _ b_sub (@ji _ _ _ _) (@jV _ 0 _ _ rfl (by walk_at "v")))) (fun _=>rfl)) (@ja0 _) (star1 rfl)) (by decide) (by decide) (star1 rfl) (stars rfl)) (@ja0 _) (star1 rfl)) (star1 rfl)) (by decide) (star1 rfl) (stars rfl)) (@jV _ 1 _ _ rfl (by walk_at "v")) (nomark _))))) (@jg_1 _ _ _ (@jg_ret _ _ _ _ (@jb _ _ _ _))) (@jg_0 _)) (@jg_c _ _ _ _ _ (@jg_born _ _ _ _ (9) _ _ Z0V.nd rfl (Or.inl rfl) (@jge_lst _ _ _ _ (@jga_c _ _ _ _ _ (@jge_call _ _ _ _ _ _ _ _ _ _ Z0i (hr.mono (by omega)) rfl (@ja _ _ _ _ _ (@jV _ 7 _ _ rfl (by walk_at "v")) (@ja _ _ _ _ _ (@ji _ _ _ _) (@ja0 _) (star1 rfl)) (star1 rfl)) (by decide) (star1 rfl) (stars rfl)) (@jga_c _ _ _ _ _ (@jge_call _ _ _ _ _ _ _ _ _ _ Z0l (hr.mono (by omega)) rfl (@ja _ _ _ _ _ (@jV _ 7 _ _ rfl (by walk_at "v")) (@ja _ _ _ _ _ (@jtup _ _ _ _ _ (@ja _ _ _ _ _ (@ji _ _ _ _) (@ja _ _ _ _ _ (@ji _ _ _ _) (@ja _ _ _ _ _ (@ji _ _ _ _) (@ja0 _) (star1 rfl)) (star1 rfl)) (star1 rfl))) (@ja0 _) (star1 rfl)) (star1 rfl)) (by decide) (star1 rfl) (stars rfl)) (@jga_0 _) (star1 rfl)) (star1 rfl))) (by rfl) (by walk_at "f")) (@jg_c _ _ _ _ _ (@jg_if _ _ _ _ _ _ _ _ (@tcmp _ _ _ _ _ _ _ _ (c_ne hr) (@jV _ 9 _ _ rfl (by walk_at "v")) (@jlst _ _ _ _ (@ja _ _ _ _ _ (@jV _ 1 _ _ rfl (by walk_at "v")) (@ja _ _ _ _ _ (@jV _ 1 _ _ rfl (by walk_at "v")) (@ja0 _) (star1 rfl)) (star1 rfl))) (nomark _)) (@jg_1 _ _ _ (@jg_ret _ _ _ _ (@jb _ _ _ _))) (@jg_0 _)) (@jg_scrapM _ _ _ _ _ (9) (8) (10) (11) _ _ _ _ _ _ _ _ _ _ _ _ _ _ _ _ _ _ _ _ (@tcmp _ _ _ _ _ _ _ _ (c_ne hr) (@jV _ 8 _ _ rfl (by walk_at "v")) (@js _ _ _ _) (nomark _)) (@ps_appV _ _ _ _ _ _ _ _ _ _ (pv 9) (pv 8) (by rfl) (by rfl) (by rfl) (by rfl) (star1 rfl) (stars rfl)) PassesOwn.never rfl Z0V.nd rfl (Or.inl rfl) rfl (Or.inl rfl) (pv 9) (pv 10) (@ps_clr _ _ _ _ _ _ _ (pv 11) (by rfl) (by rfl) (by rfl)) (@jg_1 _ _ _ (@jg_ret _ _ _ _ (@jcmp _ _ _ _ _ _ _ _ (c_eq hr) (@jV _ 7 _ _ rfl (by walk_at "v")) (@jV _ 1 _ _ rfl (by walk_at "v")) (nomark _)))) (by walk_at "f") (by walk_at "f") (fun _=>rfl) (fun _=>rfl))))))))))))))))) Z4t
end
theorem all_mk{l:PySem.W.OpenLaw}{w:World}{K:PySem.W.Frag}{h:Heap}{mg:Str->Option Value}{fa f0 f1 f2 f3 f4 f5 f6 f7 f8 f9 f10 f11 f12 f13 f14 f15 f16 f17 f18 f19 f20 f21 f22 f23 f24 f25 f26 f27 f28 f29 f30 f31:Addr}(X:K.In h)(G:h.Ns mainGlobals mg) (hfa:mg "law" = some (.ref fa))
  {od0 an0 od1 an1 od2 an2 od3 an3 od4 an4 od5 an5 od6 an6 od7 an7 od8 an8 od9 an9 od10 an10 od11 an11 od12 an12 od13 an13 od14 an14 od15 an15 od16 an16 od17 an17 od18 an18 od19 an19 od20 an20 od21 an21 od22 an22 od23 an23 od24 an24 od25 an25 od26 an26 od27 an27 od28 an28 od29 an29 od30 an30 od31 an31:Option Addr} {sl0 sl1 sl2 sl3 sl4 sl5 sl6 sl7 sl8 sl9 sl10 sl11 sl12 sl13 sl14 sl15 sl16 sl17 sl18 sl19 sl20 sl21 sl22 sl23 sl24 sl25 sl26 sl27 sl28 sl29 sl30 sl31:Array (Option Value)} {oc0 kV0 dc0 pm0 cd0 ct0 oc1 kV1 dc1 pm1 cd1 ct1 oc2 kV2 dc2 pm2 cd2 ct2 oc3 kV3 dc3 pm3 cd3 ct3 oc4 kV4 dc4 pm4 cd4 ct4 oc5 kV5 dc5 pm5 cd5 ct5 oc6 kV6 dc6 pm6 cd6 ct6 oc7 kV7 dc7 pm7 cd7 ct7 oc8 kV8 dc8 pm8 cd8 ct8 oc9 kV9 dc9 pm9 cd9 ct9 oc10 kV10 dc10 pm10 cd10 ct10 oc11 kV11 dc11 pm11 cd11 ct11 oc12 kV12 dc12 pm12 cd12 ct12 oc13 kV13 dc13 pm13 cd13 ct13 oc14 kV14 dc14 pm14 cd14 ct14 oc15 kV15 dc15 pm15 cd15 ct15 oc16 kV16 dc16 pm16 cd16 ct16 oc17 kV17 dc17 pm17 cd17 ct17 oc18 kV18 dc18 pm18 cd18 ct18 oc19 kV19 dc19 pm19 cd19 ct19 oc20 kV20 dc20 pm20 cd20 ct20 oc21 kV21 dc21 pm21 cd21 ct21 oc22 kV22 dc22 pm22 cd22 ct22 oc23 kV23 dc23 pm23 cd23 ct23 oc24 kV24 dc24 pm24 cd24 ct24 oc25 kV25 dc25 pm25 cd25 ct25 oc26 kV26 dc26 pm26 cd26 ct26 oc27 kV27 dc27 pm27 cd27 ct27 oc28 kV28 dc28 pm28 cd28 ct28 oc29 kV29 dc29 pm29 cd29 ct29 oc30 kV30 dc30 pm30 cd30 ct30 oc31 kV31 dc31 pm31 cd31 ct31:Value}
  (a0:PySem.W.nsIn K mainGlobals "_law_cell_at" = some (some (.ref f0))) (l0:K.lookup f0=some ⟨oc0,od0,.func (PySem.W.fnOf "_law_cell_at" "_law_cell_at" (defArgs Z0N) (defBody Z0N) (defScope Z0N) .none kV0 dc0 pm0 an0 cd0 ct0),sl0⟩) (c0:PySem.W.codeIn K cd0 "_law_cell_at" = true) (k0:PySem.W.keepIn K (.ref f0)=true)
  (a1:PySem.W.nsIn K mainGlobals "_law_draw" = some (some (.ref f1))) (l1:K.lookup f1=some ⟨oc1,od1,.func (PySem.W.fnOf "_law_draw" "_law_draw" (defArgs Z1J) (defBody Z1J) (defScope Z1J) .none kV1 dc1 pm1 an1 cd1 ct1),sl1⟩) (c1:PySem.W.codeIn K cd1 "_law_draw" = true) (k1:PySem.W.keepIn K (.ref f1)=true)
  (a2:PySem.W.nsIn K mainGlobals "_law_names" = some (some (.ref f2))) (l2:K.lookup f2=some ⟨oc2,od2,.func (PySem.W.fnOf "_law_names" "_law_names" (defArgs Z10) (defBody Z10) (defScope Z10) .none kV2 dc2 pm2 an2 cd2 ct2),sl2⟩) (c2:PySem.W.codeIn K cd2 "_law_names" = true) (k2:PySem.W.keepIn K (.ref f2)=true)
  (a3:PySem.W.nsIn K mainGlobals "_law_number" = some (some (.ref f3))) (l3:K.lookup f3=some ⟨oc3,od3,.func (PySem.W.fnOf "_law_number" "_law_number" (defArgs Z12) (defBody Z12) (defScope Z12) .none kV3 dc3 pm3 an3 cd3 ct3),sl3⟩) (c3:PySem.W.codeIn K cd3 "_law_number" = true) (k3:PySem.W.keepIn K (.ref f3)=true)
  (a4:PySem.W.nsIn K mainGlobals "_law_triple" = some (some (.ref f4))) (l4:K.lookup f4=some ⟨oc4,od4,.func (PySem.W.fnOf "_law_triple" "_law_triple" (defArgs Z13) (defBody Z13) (defScope Z13) .none kV4 dc4 pm4 an4 cd4 ct4),sl4⟩) (c4:PySem.W.codeIn K cd4 "_law_triple" = true) (k4:PySem.W.keepIn K (.ref f4)=true)
  (a5:PySem.W.nsIn K mainGlobals "_law_cross" = some (some (.ref f5))) (l5:K.lookup f5=some ⟨oc5,od5,.func (PySem.W.fnOf "_law_cross" "_law_cross" (defArgs Z1k) (defBody Z1k) (defScope Z1k) .none kV5 dc5 pm5 an5 cd5 ct5),sl5⟩) (c5:PySem.W.codeIn K cd5 "_law_cross" = true) (k5:PySem.W.keepIn K (.ref f5)=true)
  (a6:PySem.W.nsIn K mainGlobals "_law_plate" = some (some (.ref f6))) (l6:K.lookup f6=some ⟨oc6,od6,.func (PySem.W.fnOf "_law_plate" "_law_plate" (defArgs Z1l) (defBody Z1l) (defScope Z1l) .none kV6 dc6 pm6 an6 cd6 ct6),sl6⟩) (c6:PySem.W.codeIn K cd6 "_law_plate" = true) (k6:PySem.W.keepIn K (.ref f6)=true)
  (a7:PySem.W.nsIn K mainGlobals "_law_dot" = some (some (.ref f7))) (l7:K.lookup f7=some ⟨oc7,od7,.func (PySem.W.fnOf "_law_dot" "_law_dot" (defArgs Z23) (defBody Z23) (defScope Z23) .none kV7 dc7 pm7 an7 cd7 ct7),sl7⟩) (c7:PySem.W.codeIn K cd7 "_law_dot" = true) (k7:PySem.W.keepIn K (.ref f7)=true)
  (a8:PySem.W.nsIn K mainGlobals "_law_ahead" = some (some (.ref f8))) (l8:K.lookup f8=some ⟨oc8,od8,.func (PySem.W.fnOf "_law_ahead" "_law_ahead" (defArgs Z15) (defBody Z15) (defScope Z15) .none kV8 dc8 pm8 an8 cd8 ct8),sl8⟩) (c8:PySem.W.codeIn K cd8 "_law_ahead" = true) (k8:PySem.W.keepIn K (.ref f8)=true)
  (a9:PySem.W.nsIn K mainGlobals "_law_tip" = some (some (.ref f9))) (l9:K.lookup f9=some ⟨oc9,od9,.func (PySem.W.fnOf "_law_tip" "_law_tip" (defArgs Z1A) (defBody Z1A) (defScope Z1A) .none kV9 dc9 pm9 an9 cd9 ct9),sl9⟩) (c9:PySem.W.codeIn K cd9 "_law_tip" = true) (k9:PySem.W.keepIn K (.ref f9)=true)
  (a10:PySem.W.nsIn K mainGlobals "_law_sun" = some (some (.ref f10))) (l10:K.lookup f10=some ⟨oc10,od10,.func (PySem.W.fnOf "_law_sun" "_law_sun" (defArgs Z24) (defBody Z24) (defScope Z24) .none kV10 dc10 pm10 an10 cd10 ct10),sl10⟩) (c10:PySem.W.codeIn K cd10 "_law_sun" = true) (k10:PySem.W.keepIn K (.ref f10)=true)
  (a11:PySem.W.nsIn K mainGlobals "_law_yard" = some (some (.ref f11))) (l11:K.lookup f11=some ⟨oc11,od11,.func (PySem.W.fnOf "_law_yard" "_law_yard" (defArgs Z1u) (defBody Z1u) (defScope Z1u) .none kV11 dc11 pm11 an11 cd11 ct11),sl11⟩) (c11:PySem.W.codeIn K cd11 "_law_yard" = true) (k11:PySem.W.keepIn K (.ref f11)=true)
  (a12:PySem.W.nsIn K mainGlobals "_law_edges" = some (some (.ref f12))) (l12:K.lookup f12=some ⟨oc12,od12,.func (PySem.W.fnOf "_law_edges" "_law_edges" (defArgs Z1n) (defBody Z1n) (defScope Z1n) .none kV12 dc12 pm12 an12 cd12 ct12),sl12⟩) (c12:PySem.W.codeIn K cd12 "_law_edges" = true) (k12:PySem.W.keepIn K (.ref f12)=true)
  (a13:PySem.W.nsIn K mainGlobals "_law_drawn" = some (some (.ref f13))) (l13:K.lookup f13=some ⟨oc13,od13,.func (PySem.W.fnOf "_law_drawn" "_law_drawn" (defArgs Z1o) (defBody Z1o) (defScope Z1o) .none kV13 dc13 pm13 an13 cd13 ct13),sl13⟩) (c13:PySem.W.codeIn K cd13 "_law_drawn" = true) (k13:PySem.W.keepIn K (.ref f13)=true)
  (a14:PySem.W.nsIn K mainGlobals "_law_numbers" = some (some (.ref f14))) (l14:K.lookup f14=some ⟨oc14,od14,.func (PySem.W.fnOf "_law_numbers" "_law_numbers" (defArgs Z0P) (defBody Z0P) (defScope Z0P) .none kV14 dc14 pm14 an14 cd14 ct14),sl14⟩) (c14:PySem.W.codeIn K cd14 "_law_numbers" = true) (k14:PySem.W.keepIn K (.ref f14)=true)
  (a15:PySem.W.nsIn K mainGlobals "dot_of" = some (some (.ref f15))) (l15:K.lookup f15=some ⟨oc15,od15,.func (PySem.W.fnOf "dot_of" "dot_of" (defArgs Z16) (defBody Z16) (defScope Z16) .none kV15 dc15 pm15 an15 cd15 ct15),sl15⟩) (c15:PySem.W.codeIn K cd15 "dot_of" = true) (k15:PySem.W.keepIn K (.ref f15)=true)
  (a16:PySem.W.nsIn K mainGlobals "triple_sum" = some (some (.ref f16))) (l16:K.lookup f16=some ⟨oc16,od16,.func (PySem.W.fnOf "triple_sum" "triple_sum" (defArgs Z0m) (defBody Z0m) (defScope Z0m) .none kV16 dc16 pm16 an16 cd16 ct16),sl16⟩) (c16:PySem.W.codeIn K cd16 "triple_sum" = true) (k16:PySem.W.keepIn K (.ref f16)=true)
  (a17:PySem.W.nsIn K mainGlobals "is_whole" = some (some (.ref f17))) (l17:K.lookup f17=some ⟨oc17,od17,.func (PySem.W.fnOf "is_whole" "is_whole" (defArgs Z0B) (defBody Z0B) (defScope Z0B) .none kV17 dc17 pm17 an17 cd17 ct17),sl17⟩) (c17:PySem.W.codeIn K cd17 "is_whole" = true) (k17:PySem.W.keepIn K (.ref f17)=true)
  (a18:PySem.W.nsIn K mainGlobals "is_triple" = some (some (.ref f18))) (l18:K.lookup f18=some ⟨oc18,od18,.func (PySem.W.fnOf "is_triple" "is_triple" (defArgs Z0k) (defBody Z0k) (defScope Z0k) .none kV18 dc18 pm18 an18 cd18 ct18),sl18⟩) (c18:PySem.W.codeIn K cd18 "is_triple" = true) (k18:PySem.W.keepIn K (.ref f18)=true)
  (a19:PySem.W.nsIn K mainGlobals "is_near_triple" = some (some (.ref f19))) (l19:K.lookup f19=some ⟨oc19,od19,.func (PySem.W.fnOf "is_near_triple" "is_near_triple" (defArgs Z08) (defBody Z08) (defScope Z08) .none kV19 dc19 pm19 an19 cd19 ct19),sl19⟩) (c19:PySem.W.codeIn K cd19 "is_near_triple" = true) (k19:PySem.W.keepIn K (.ref f19)=true)
  (a20:PySem.W.nsIn K mainGlobals "by_rows" = some (some (.ref f20))) (l20:K.lookup f20=some ⟨oc20,od20,.func (PySem.W.fnOf "by_rows" "by_rows" (defArgs Z0A) (defBody Z0A) (defScope Z0A) .none kV20 dc20 pm20 an20 cd20 ct20),sl20⟩) (c20:PySem.W.codeIn K cd20 "by_rows" = true) (k20:PySem.W.keepIn K (.ref f20)=true)
  (a21:PySem.W.nsIn K mainGlobals "plate_by_rows" = some (some (.ref f21))) (l21:K.lookup f21=some ⟨oc21,od21,.func (PySem.W.fnOf "plate_by_rows" "plate_by_rows" (defArgs Z0d) (defBody Z0d) (defScope Z0d) .none kV21 dc21 pm21 an21 cd21 ct21),sl21⟩) (c21:PySem.W.codeIn K cd21 "plate_by_rows" = true) (k21:PySem.W.keepIn K (.ref f21)=true)
  (a22:PySem.W.nsIn K mainGlobals "yard_by_rows" = some (some (.ref f22))) (l22:K.lookup f22=some ⟨oc22,od22,.func (PySem.W.fnOf "yard_by_rows" "yard_by_rows" (defArgs Z07) (defBody Z07) (defScope Z07) .none kV22 dc22 pm22 an22 cd22 ct22),sl22⟩) (c22:PySem.W.codeIn K cd22 "yard_by_rows" = true) (k22:PySem.W.keepIn K (.ref f22)=true)
  (a23:PySem.W.nsIn K mainGlobals "moved_yard" = some (some (.ref f23))) (l23:K.lookup f23=some ⟨oc23,od23,.func (PySem.W.fnOf "moved_yard" "moved_yard" (defArgs Z0n) (defBody Z0n) (defScope Z0n) .none kV23 dc23 pm23 an23 cd23 ct23),sl23⟩) (c23:PySem.W.codeIn K cd23 "moved_yard" = true) (k23:PySem.W.keepIn K (.ref f23)=true)
  (a24:PySem.W.nsIn K mainGlobals "triple_times" = some (some (.ref f24))) (l24:K.lookup f24=some ⟨oc24,od24,.func (PySem.W.fnOf "triple_times" "triple_times" (defArgs Z0f) (defBody Z0f) (defScope Z0f) .none kV24 dc24 pm24 an24 cd24 ct24),sl24⟩) (c24:PySem.W.codeIn K cd24 "triple_times" = true) (k24:PySem.W.keepIn K (.ref f24)=true)
  (a25:PySem.W.nsIn K mainGlobals "greater_yard" = some (some (.ref f25))) (l25:K.lookup f25=some ⟨oc25,od25,.func (PySem.W.fnOf "greater_yard" "greater_yard" (defArgs Z0a) (defBody Z0a) (defScope Z0a) .none kV25 dc25 pm25 an25 cd25 ct25),sl25⟩) (c25:PySem.W.codeIn K cd25 "greater_yard" = true) (k25:PySem.W.keepIn K (.ref f25)=true)
  (a26:PySem.W.nsIn K mainGlobals "_law_told" = some (some (.ref f26))) (l26:K.lookup f26=some ⟨oc26,od26,.func (PySem.W.fnOf "_law_told" "_law_told" (defArgs Z1P) (defBody Z1P) (defScope Z1P) .none kV26 dc26 pm26 an26 cd26 ct26),sl26⟩) (c26:PySem.W.codeIn K cd26 "_law_told" = true) (k26:PySem.W.keepIn K (.ref f26)=true)
  (a27:PySem.W.nsIn K mainGlobals "_law_moved" = some (some (.ref f27))) (l27:K.lookup f27=some ⟨oc27,od27,.func (PySem.W.fnOf "_law_moved" "_law_moved" (defArgs Z0E) (defBody Z0E) (defScope Z0E) .none kV27 dc27 pm27 an27 cd27 ct27),sl27⟩) (c27:PySem.W.codeIn K cd27 "_law_moved" = true) (k27:PySem.W.keepIn K (.ref f27)=true)
  (a28:PySem.W.nsIn K mainGlobals "_law_alike" = some (some (.ref f28))) (l28:K.lookup f28=some ⟨oc28,od28,.func (PySem.W.fnOf "_law_alike" "_law_alike" (defArgs Z0Q) (defBody Z0Q) (defScope Z0Q) .none kV28 dc28 pm28 an28 cd28 ct28),sl28⟩) (c28:PySem.W.codeIn K cd28 "_law_alike" = true) (k28:PySem.W.keepIn K (.ref f28)=true)
  (a29:PySem.W.nsIn K mainGlobals "_law_fits" = some (some (.ref f29))) (l29:K.lookup f29=some ⟨oc29,od29,.func (PySem.W.fnOf "_law_fits" "_law_fits" (defArgs Z1R) (defBody Z1R) (defScope Z1R) .none kV29 dc29 pm29 an29 cd29 ct29),sl29⟩) (c29:PySem.W.codeIn K cd29 "_law_fits" = true) (k29:PySem.W.keepIn K (.ref f29)=true)
  (a30:PySem.W.nsIn K mainGlobals "_law_greater" = some (some (.ref f30))) (l30:K.lookup f30=some ⟨oc30,od30,.func (PySem.W.fnOf "_law_greater" "_law_greater" (defArgs Z0p) (defBody Z0p) (defScope Z0p) .none kV30 dc30 pm30 an30 cd30 ct30),sl30⟩) (c30:PySem.W.codeIn K cd30 "_law_greater" = true) (k30:PySem.W.keepIn K (.ref f30)=true)
  (a31:PySem.W.nsIn K mainGlobals "law" = some (some (.ref f31))) (l31:K.lookup f31=some ⟨oc31,od31,.func (PySem.W.fnOf "law" "law" (defArgs Z0U) (defBody Z0U) (defScope Z0U) .none kV31 dc31 pm31 an31 cd31 ct31),sl31⟩) (c31:PySem.W.codeIn K cd31 "law" = true) (k31:PySem.W.keepIn K (.ref f31)=true)
  (z0:PySem.W.nsIn K mainGlobals "len" = some none)
  (z1:PySem.W.nsIn K mainGlobals "range" = some none)
  (z2:PySem.W.nsIn K mainGlobals "int" = some none)
  (z3:PySem.W.nsIn K mainGlobals "zip" = some none)
  (z4:PySem.W.nsIn K mainGlobals "tuple" = some none)
  (z5:PySem.W.nsIn K mainGlobals "enumerate" = some none)
  (z6:PySem.W.nsIn K mainGlobals "max" = some none)
  (z7:PySem.W.nsIn K mainGlobals "min" = some none)
  (z8:PySem.W.nsIn K mainGlobals "isinstance" = some none)
  (z9:PySem.W.nsIn K mainGlobals "bool" = some none)
  (z10:PySem.W.nsIn K mainGlobals "all" = some none)
  (z11:PySem.W.nsIn K mainGlobals "ValueError" = some none)
  (z12:PySem.W.nsIn K mainGlobals "str" = some none)
  (z13:PySem.W.nsIn K mainGlobals "list" = some none)
  (z14:PySem.W.nsIn K mainGlobals "abs" = some none)
  {ctk0:Tok} (cg0:PySem.W.nsIn K mainGlobals "FARTHEST" = some (some (.int 1000000000 ctk0)))
  {ct1_0 ct1_1 ct1_2:Tok} {cp1:Addr} {cod1:Option Addr} {cn1:Nat} {csl1:Array (Option Value)} (cg1:PySem.W.nsIn K mainGlobals "NOUGHT" = some (some (.ref cp1))) (ch1:K.lookup cp1=some ⟨.type "tuple", cod1,.seq #[.int 0 ct1_0,.int 0 ct1_1,.int 0 ct1_2] cn1,csl1⟩)
  {nt2_0_0 nt2_0_1 nt2_0_2 nt2_1_0 nt2_1_1 nt2_1_2 nt2_2_0 nt2_2_1 nt2_2_2:Tok} {np2 np2_0 np2_1 np2_2:Addr} {no2 no2_0 no2_1 no2_2:Option Addr} {nn2 nn2_0 nn2_1 nn2_2:Nat} {ns2 ns2_0 ns2_1 ns2_2:Array (Option Value)} (cg2:PySem.W.nsIn K mainGlobals "SAME" = some (some (.ref np2))) (nh2:K.lookup np2=some ⟨.type "tuple", no2,.seq #[.ref np2_0,.ref np2_1,.ref np2_2] nn2,ns2⟩) (nh2_0:K.lookup np2_0=some ⟨.type "tuple", no2_0,.seq #[.int (1) nt2_0_0,.int (0) nt2_0_1,.int (0) nt2_0_2] nn2_0,ns2_0⟩) (nh2_1:K.lookup np2_1=some ⟨.type "tuple", no2_1,.seq #[.int (0) nt2_1_0,.int (1) nt2_1_1,.int (0) nt2_1_2] nn2_1,ns2_1⟩) (nh2_2:K.lookup np2_2=some ⟨.type "tuple", no2_2,.seq #[.int (0) nt2_2_0,.int (0) nt2_2_1,.int (1) nt2_2_2] nn2_2,ns2_2⟩)
  {FI_NoYard:Addr} {odI_NoYard anI_NoYard:Option Addr} {kVI_NoYard dcI_NoYard pmI_NoYard cdI_NoYard ctI_NoYard:Value} {slI_NoYard:Array (Option Value)} {CD_NoYard:ClassData}
  {D_NoYard D_YardError D_NoBack D_NoHour D_NoName D_NoNumber D_NoPlate D_NoRow D_NoSay D_NoSun D_NotLit D_TooMany:Addr} (dd_NoYard:PySem.W.nsIn K mainGlobals "NoYard" = some (some (.ref D_NoYard))) (dd_YardError:PySem.W.nsIn K mainGlobals "YardError" = some (some (.ref D_YardError))) (dd_NoBack:PySem.W.nsIn K mainGlobals "NoBack" = some (some (.ref D_NoBack))) (dd_NoHour:PySem.W.nsIn K mainGlobals "NoHour" = some (some (.ref D_NoHour))) (dd_NoName:PySem.W.nsIn K mainGlobals "NoName" = some (some (.ref D_NoName))) (dd_NoNumber:PySem.W.nsIn K mainGlobals "NoNumber" = some (some (.ref D_NoNumber))) (dd_NoPlate:PySem.W.nsIn K mainGlobals "NoPlate" = some (some (.ref D_NoPlate))) (dd_NoRow:PySem.W.nsIn K mainGlobals "NoRow" = some (some (.ref D_NoRow))) (dd_NoSay:PySem.W.nsIn K mainGlobals "NoSay" = some (some (.ref D_NoSay))) (dd_NoSun:PySem.W.nsIn K mainGlobals "NoSun" = some (some (.ref D_NoSun))) (dd_NotLit:PySem.W.nsIn K mainGlobals "NotLit" = some (some (.ref D_NotLit))) (dd_TooMany:PySem.W.nsIn K mainGlobals "TooMany" = some (some (.ref D_TooMany))) (ff_NoYard:PySem.W.findIn K (.ref D_NoYard) "__init__" = some (some (.ref FI_NoYard))) (xi_NoYard:ownIn K D_NoYard FI_NoYard=true) (li_NoYard:K.lookup FI_NoYard=some ⟨.type "function", odI_NoYard,.func (PySem.W.fnOf "__init__" "NoYard.__init__" (defArgs ini_NoYard) (defBody ini_NoYard) (defScope ini_NoYard) .none kVI_NoYard dcI_NoYard pmI_NoYard anI_NoYard cdI_NoYard ctI_NoYard),slI_NoYard⟩) (lc_NoYard:PySem.W.codeIn K cdI_NoYard "NoYard.__init__" = true) (lk_NoYard:PySem.W.keepIn K (.ref FI_NoYard)=true) (ci_NoYard:PySem.W.clsIn K D_NoYard=some CD_NoYard) (mr_NoYard:CD_NoYard.mro=List.map Value.ref [D_NoYard,D_YardError]++mroVE) (hd_NoYard:CD_NoYard.hasDict=true) (sa_NoYard:PySem.W.findIn K (.ref D_NoYard) "__setattr__" = some (some (.builtin "object.__setattr__"))) (na_NoYard:PySem.W.findIn K (.ref D_NoYard) "name" = some none) (sp_NoYard:PySem.W.specialIn K (.ref D_YardError) "__getattribute__" = some (some (.builtin "type.__getattribute__"))) (rd_NoYard:PySem.W.readsIn K D_YardError (.type "type")=true) (fk_NoYard:PySem.W.findCls K (.ref D_YardError) (.type "type") "__init__" = some (.val (.builtin "ValueError.__init__"))) (fa_NoYard:PySem.W.findIn K (.ref D_NoYard) "__getattribute__" = some (some (.builtin "BaseException.__getattribute__"))) (fb_NoYard:PySem.W.findIn K (.ref D_NoYard) "__class__" = some (some (.builtin "object.__class__"))) (fc_NoYard:PySem.W.findIn K (.ref D_NoYard) "__getattr__" = some none) (fd_NoYard:PySem.W.subIn K (.ref D_NoYard) (.type "BaseException")=some true) (fe_NoYard:PySem.W.subIn K (.ref D_NoYard) (.type "object")=some true) (em_YardError_NoYard:PySem.W.exmOne K (.ref D_NoYard) (.ref D_YardError)=some true) (ki_NoBack_NoHour_NoName_NoNumber_NoPlate_NoRow_NoSay_NoSun_NotLit_TooMany_NoYard:PySem.W.kitAny K (.ref D_NoYard) [.ref D_NoBack,.ref D_NoHour,.ref D_NoName,.ref D_NoNumber,.ref D_NoPlate,.ref D_NoRow,.ref D_NoSay,.ref D_NoSun,.ref D_NotLit,.ref D_TooMany]=some false) (ki_NoYard_NoYard:PySem.W.kitOne K (.ref D_NoYard) (.ref D_NoYard)=some true) (ki_ValueError_NoYard:PySem.W.kitOne K (.ref D_NoYard) (.type "ValueError")=some true)
  : ∃fd:FuncData,(∀(s:Shared)(v:Value),BindsTo s fd ⟨[v],[]⟩ [("_law_script", v)])/\∀base:Heap,K.In base->base.Ns mainGlobals mg->FnOk l.prog w K mg base CX0 11 fa fd ["_law_script"] (spT K 1 lawSp):=by
 have e:=hfa.symm.trans (PySem.W.mg_of X G a31)
 cases e
 have F0:=fun_mk (st:=Z0N) l0 c0 k0
 have F1:=fun_mk (st:=Z1J) l1 c1 k1
 have F2:=fun_mk (st:=Z10) l2 c2 k2
 have F3:=fun_mk (st:=Z12) l3 c3 k3
 have F4:=fun_mk (st:=Z13) l4 c4 k4
 have F5:=fun_mk (st:=Z1k) l5 c5 k5
 have F6:=fun_mk (st:=Z1l) l6 c6 k6
 have F7:=fun_mk (st:=Z23) l7 c7 k7
 have F8:=fun_mk (st:=Z15) l8 c8 k8
 have F9:=fun_mk (st:=Z1A) l9 c9 k9
 have F10:=fun_mk (st:=Z24) l10 c10 k10
 have F11:=fun_mk (st:=Z1u) l11 c11 k11
 have F12:=fun_mk (st:=Z1n) l12 c12 k12
 have F13:=fun_mk (st:=Z1o) l13 c13 k13
 have F14:=fun_mk (st:=Z0P) l14 c14 k14
 have F15:=fun_mk (st:=Z16) l15 c15 k15
 have F16:=fun_mk (st:=Z0m) l16 c16 k16
 have F17:=fun_mk (st:=Z0B) l17 c17 k17
 have F18:=fun_mk (st:=Z0k) l18 c18 k18
 have F19:=fun_mk (st:=Z08) l19 c19 k19
 have F20:=fun_mk (st:=Z0A) l20 c20 k20
 have F21:=fun_mk (st:=Z0d) l21 c21 k21
 have F22:=fun_mk (st:=Z07) l22 c22 k22
 have F23:=fun_mk (st:=Z0n) l23 c23 k23
 have F24:=fun_mk (st:=Z0f) l24 c24 k24
 have F25:=fun_mk (st:=Z0a) l25 c25 k25
 have F26:=fun_mk (st:=Z1P) l26 c26 k26
 have F27:=fun_mk (st:=Z0E) l27 c27 k27
 have F28:=fun_mk (st:=Z0Q) l28 c28 k28
 have F29:=fun_mk (st:=Z1R) l29 c29 k29
 have F30:=fun_mk (st:=Z0p) l30 c30 k30
 have F31:=fun_mk (st:=Z0U) l31 c31 k31
 have z_len:=PySem.W.mg_none_of X G z0
 have z_range:=PySem.W.mg_none_of X G z1
 have z_int:=PySem.W.mg_none_of X G z2
 have z_zip:=PySem.W.mg_none_of X G z3
 have z_tuple:=PySem.W.mg_none_of X G z4
 have z_enumerate:=PySem.W.mg_none_of X G z5
 have z_max:=PySem.W.mg_none_of X G z6
 have z_min:=PySem.W.mg_none_of X G z7
 have z_isinstance:=PySem.W.mg_none_of X G z8
 have z_bool:=PySem.W.mg_none_of X G z9
 have z_all:=PySem.W.mg_none_of X G z10
 have z_ValueError:=PySem.W.mg_none_of X G z11
 have z_str:=PySem.W.mg_none_of X G z12
 have z_list:=PySem.W.mg_none_of X G z13
 have z_abs:=PySem.W.mg_none_of X G z14
 have g_FARTHEST:GlC K mg "FARTHEST" c_FARTHEST:=⟨_,PySem.W.mg_of X G cg0,.int _,⟨_,rfl⟩,fun H=>rep_int.mpr rfl⟩
 have g_NOUGHT:GlC K mg "NOUGHT" c_NOUGHT:=⟨_,PySem.W.mg_of X G cg1,.ref _,rfl,fun H=>rep_tup.mpr ⟨_,[.int 0,.int 0,.int 0],rfl,.inr ⟨_,_,_,ch1,rfl,rfl,few (show 3<=1000 by decide),.cons ⟨_,rfl⟩ (.cons ⟨_,rfl⟩ (.cons ⟨_,rfl⟩ (.nil)))⟩,.cons (rep_int.mpr rfl) (.cons (rep_int.mpr rfl) (.cons (rep_int.mpr rfl) (reps_nil.mpr rfl)))⟩⟩
 have g_SAME:GlC K mg "SAME" c_SAME:=⟨_,PySem.W.mg_of X G cg2,.ref _,rfl,fun H=>rep_tup.mpr ⟨_,[.ref np2_0,.ref np2_1,.ref np2_2],rfl,.inr ⟨_,_,_,nh2,rfl,rfl,few (show 3<=1000 by decide),.cons rfl (.cons rfl (.cons rfl (.nil)))⟩,.cons (rep_tup.mpr ⟨_,[.int (1),.int (0),.int (0)],rfl,.inr ⟨_,_,_,nh2_0,rfl,rfl,few (show 3<=1000 by decide),.cons ⟨_,rfl⟩ (.cons ⟨_,rfl⟩ (.cons ⟨_,rfl⟩ (.nil)))⟩,.cons (rep_int.mpr rfl) (.cons (rep_int.mpr rfl) (.cons (rep_int.mpr rfl) (reps_nil.mpr rfl)))⟩) (.cons (rep_tup.mpr ⟨_,[.int (0),.int (1),.int (0)],rfl,.inr ⟨_,_,_,nh2_1,rfl,rfl,few (show 3<=1000 by decide),.cons ⟨_,rfl⟩ (.cons ⟨_,rfl⟩ (.cons ⟨_,rfl⟩ (.nil)))⟩,.cons (rep_int.mpr rfl) (.cons (rep_int.mpr rfl) (.cons (rep_int.mpr rfl) (reps_nil.mpr rfl)))⟩) (.cons (rep_tup.mpr ⟨_,[.int (0),.int (0),.int (1)],rfl,.inr ⟨_,_,_,nh2_2,rfl,rfl,few (show 3<=1000 by decide),.cons ⟨_,rfl⟩ (.cons ⟨_,rfl⟩ (.cons ⟨_,rfl⟩ (.nil)))⟩,.cons (rep_int.mpr rfl) (.cons (rep_int.mpr rfl) (.cons (rep_int.mpr rfl) (reps_nil.mpr rfl)))⟩) (reps_nil.mpr rfl)))⟩⟩
 have mc_NoYard:=PySem.W.mg_of X G dd_NoYard
 have mc_YardError:=PySem.W.mg_of X G dd_YardError
 have mc_NoBack:=PySem.W.mg_of X G dd_NoBack
 have mc_NoHour:=PySem.W.mg_of X G dd_NoHour
 have mc_NoName:=PySem.W.mg_of X G dd_NoName
 have mc_NoNumber:=PySem.W.mg_of X G dd_NoNumber
 have mc_NoPlate:=PySem.W.mg_of X G dd_NoPlate
 have mc_NoRow:=PySem.W.mg_of X G dd_NoRow
 have mc_NoSay:=PySem.W.mg_of X G dd_NoSay
 have mc_NoSun:=PySem.W.mg_of X G dd_NoSun
 have mc_NotLit:=PySem.W.mg_of X G dd_NotLit
 have mc_TooMany:=PySem.W.mg_of X G dd_TooMany
 have tl_NoYard:ClsTold K D_NoYard:=⟨fa_NoYard,fb_NoYard,fc_NoYard,fd_NoYard,fe_NoYard⟩
 have fI_NoYard:=fun_mk (st:=ini_NoYard) li_NoYard lc_NoYard lk_NoYard
 have x_NoYard:FldCls K mg "NoYard" "name" := ini_fld (st:=ini_NoYard) dd_NoYard mc_NoYard xi_NoYard fI_NoYard ⟨_,li_NoYard,rfl⟩ (fI_NoYard.binds (ps:=["self", "name"]) fun _ _ _ _ _ _ us hl=>args2 hl fun _ _=>rfl) rfl sc_ini_NoYard (.inl rfl) (.inl rfl) rfl mc_YardError sp_NoYard rd_NoYard fk_NoYard sa_NoYard na_NoYard ci_NoYard mr_NoYard hd_NoYard (by decide) rfl rfl rfl rfl rfl (fun _=>rfl) (fun _=>rfl)
 have gf_name:GetF K "name" ["NoYard"]:=(getF_cons dd_NoYard ⟨fa_NoYard,fc_NoYard,ci_NoYard,mr_NoYard,hd_NoYard,na_NoYard⟩ getF_nil)
 have ct_YardError:Catches K mg "YardError" ["NoYard"]:=catches_cons dd_NoYard mc_YardError em_YardError_NoYard (catches_nil mc_YardError)
 have an_NoBack_NoHour_NoName_NoNumber_NoPlate_NoRow_NoSay_NoSun_NotLit_TooMany:=ansN_cons dd_NoYard tl_NoYard (isCls_own xi_NoYard) ki_NoBack_NoHour_NoName_NoNumber_NoPlate_NoRow_NoSay_NoSun_NotLit_TooMany_NoYard (ansN_nil)
 have an_NoYard:=ans1_cons dd_NoYard tl_NoYard (isCls_own xi_NoYard) ki_NoYard_NoYard (ans1_nil)
 have an_ValueError:=ans1_cons dd_NoYard tl_NoYard (isCls_own xi_NoYard) ki_ValueError_NoYard (ans1_nil)
 refine⟨PySem.W.fnOf "law" "law" (defArgs Z0U) (defBody Z0U) (defScope Z0U) .none kV31 dc31 pm31 an31 cd31 ct31,fun s v=>.of_eq rfl,fun base _ _=>?_⟩
 have Z0y:=Z3v (P:=l.prog) (w:=w) (base:=base) F0 (PySem.W.mg_of X G a0) z_len
 have Z03:=Z4m (P:=l.prog) (w:=w) (base:=base) F1 (PySem.W.mg_of X G a1) z_range
 have Z2T:=Z47 (P:=l.prog) (w:=w) (base:=base) F2 (PySem.W.mg_of X G a2) Z03 z_range z_len
 have Z1L:=Z3O (P:=l.prog) (w:=w) (base:=base) F3 (PySem.W.mg_of X G a3) Z03
 have Z0O:=Z3Q (P:=l.prog) (w:=w) (base:=base) F4 (PySem.W.mg_of X G a4) Z1L
 have Z1M:=Z48 (P:=l.prog) (w:=w) (base:=base) F5 (PySem.W.mg_of X G a5)
 have Z2U:=Z49 (P:=l.prog) (w:=w) (base:=base) F6 (PySem.W.mg_of X G a6) Z0O Z1M
 have Z2R:=Z4v (P:=l.prog) (w:=w) (base:=base) F7 (PySem.W.mg_of X G a7)
 have Z2S:=Z4a (P:=l.prog) (w:=w) (base:=base) F8 (PySem.W.mg_of X G a8) Z2R z_int z_zip z_tuple
 have Z3R:=Z4w (P:=l.prog) (w:=w) (base:=base) F9 (PySem.W.mg_of X G a9) Z1M Z03 Z2S z_range z_tuple z_zip
 have Z3S:=Z4x (P:=l.prog) (w:=w) (base:=base) F10 (PySem.W.mg_of X G a10) Z03 Z0O z_range z_len
 have Z3l:=Z4n (P:=l.prog) (w:=w) (base:=base) F11 (PySem.W.mg_of X G a11) Z0y Z03 Z2T Z2U Z3R Z3S z_range z_len
 have Z2V:=Z4b (P:=l.prog) (w:=w) (base:=base) F12 (PySem.W.mg_of X G a12) z_range z_len
 have Z30:=Z4c (P:=l.prog) (w:=w) (base:=base) F13 (PySem.W.mg_of X G a13) Z2V Z03 z_enumerate z_max z_min z_tuple
 have Z17:=Z3w (P:=l.prog) (w:=w) (base:=base) F14 (PySem.W.mg_of X G a14)
 have Z2v:=Z3U (P:=l.prog) (w:=w) (base:=base) F15 (PySem.W.mg_of X G a15)
 have Z1D:=Z2X (P:=l.prog) (w:=w) (base:=base) F16 (PySem.W.mg_of X G a16)
 have Z1Y:=Z3k (P:=l.prog) (w:=w) (base:=base) F17 (PySem.W.mg_of X G a17) z_isinstance z_int z_bool
 have Z1W:=Z35 (P:=l.prog) (w:=w) (base:=base) F18 (PySem.W.mg_of X G a18) Z1Y z_isinstance z_tuple z_len z_all
 have Z0T:=Z2f (P:=l.prog) (w:=w) (base:=base) F19 (PySem.W.mg_of X G a19) Z1W z_all g_FARTHEST
 have Z0u:=Z3x (P:=l.prog) (w:=w) (base:=base) F20 (PySem.W.mg_of X G a20) Z2v Z1D Z0T z_tuple x_NoYard
 have Z0D:=Z2n (P:=l.prog) (w:=w) (base:=base) F21 (PySem.W.mg_of X G a21) Z0u g_NOUGHT
 have Z0h:=Z2w (P:=l.prog) (w:=w) (base:=base) F22 (PySem.W.mg_of X G a22) Z0u Z0D g_NOUGHT
 have Z0l:=Z2Z (P:=l.prog) (w:=w) (base:=base) F23 (PySem.W.mg_of X G a23) Z0h g_SAME
 have Z1h:=Z2y (P:=l.prog) (w:=w) (base:=base) F24 (PySem.W.mg_of X G a24)
 have Z0i:=Z2z (P:=l.prog) (w:=w) (base:=base) F25 (PySem.W.mg_of X G a25) Z1h Z0h g_SAME g_NOUGHT
 have Z2D:=Z4o (P:=l.prog) (w:=w) (base:=base) F26 (PySem.W.mg_of X G a26) Z0l Z0i z_isinstance z_ValueError ct_YardError gf_name mc_NoBack mc_NoHour mc_NoName mc_NoNumber mc_NoPlate mc_NoRow mc_NoSay mc_NoSun mc_NotLit mc_TooMany mc_NoYard an_NoBack_NoHour_NoName_NoNumber_NoPlate_NoRow_NoSay_NoSun_NotLit_TooMany an_NoYard an_ValueError
 have Z31:=Z4d (P:=l.prog) (w:=w) (base:=base) F27 (PySem.W.mg_of X G a27) z_zip z_tuple
 have Z1Z:=Z4e (P:=l.prog) (w:=w) (base:=base) F28 (PySem.W.mg_of X G a28) z_isinstance z_int z_bool z_str z_list z_tuple z_len z_zip z_all
 have Z2E:=Z4p (P:=l.prog) (w:=w) (base:=base) F29 (PySem.W.mg_of X G a29) Z17 Z1Z z_max z_min
 have Z2g:=Z3z (P:=l.prog) (w:=w) (base:=base) F30 (PySem.W.mg_of X G a30) z_tuple
 exact(Z4y (P:=l.prog) (w:=w) (base:=base) F31 Z3l Z0y Z30 Z17 Z03 Z2D Z31 Z2E Z2g Z0l Z0i z_abs z_max z_min z_list z_tuple).ok
end TL
open PySem PySem.W PyProof.Rows
def PySem.W.Fast.tw6621407120177989567:Nat:=0
def PySem.W.Fast.tw6589844707753108064:Nat:=0
def PySem.W.Fast.tw12443202704798100267:Nat:=0
def PySem.W.Fast.tw5727398345729185837:Nat:=0
def PySem.W.Fast.tw4953798814763397404:Nat:=0
def PySem.W.Fast.tw3743236436602672727:Nat:=0
def PySem.W.Fast.tw2420388563363619387:Nat:=0
def PySem.W.Fast.tw15251734826401473712:Nat:=0
def PySem.W.Fast.tw14742555901340229705:Nat:=0
def PySem.W.Fast.tw14082214952166819637:Nat:=0
def PySem.W.Fast.tw9183293745346409529:Nat:=0
def PySem.W.Fast.tw7974071452169644654:Nat:=0
def PySem.W.Fast.tw5906947158923747413:Nat:=0
def PySem.W.Fast.tw7537933335639766040:Nat:=0
def PySem.W.Fast.tw16922126651906388969:Nat:=0
def PySem.W.Fast.tw17873868816820925709:Nat:=0
def PySem.W.Fast.tw8086582261035525167:Nat:=0
def PySem.W.Fast.tw15266362065586758448:Nat:=0
def PySem.W.Fast.tw5048863811915839616:Nat:=0
def PySem.W.Fast.tw15928823496239807488:Nat:=0
def PySem.W.Fast.tw4316349437079831149:Nat:=0
def PySem.W.Fast.tw13199614096699208603:Nat:=0
def PySem.W.Fast.tw2037271685498250963:Nat:=0
def PySem.W.Fast.tw6239839275018391434:Nat:=0
def PySem.W.Fast.tw17173453392217396093:Nat:=0
def PySem.W.Fast.tw16703719057133784722:Nat:=0
def PySem.W.Fast.tw16932976786615911528:Nat:=0
def PySem.W.Fast.tw862961520849680933:Nat:=0
def PySem.W.Fast.tw1570489018144271767:Nat:=0
def PySem.W.Fast.tw4781454163835988457:Nat:=0
def PySem.W.Fast.tw9025807271680026152:Nat:=0
def PySem.W.Fast.tw7635755195207461362:Nat:=0
def PySem.W.Fast.tw6145489055260741710:Nat:=0
def PySem.W.Fast.tw9176998840467816643:Nat:=0
def PySem.W.Fast.tw11650996196736199643:Nat:=0
def PySem.W.Fast.tw16796791975900080298:Nat:=0
def PySem.W.Fast.tw15928162785836721734:Nat:=0
def PySem.W.Fast.tw18159252055603512033:Nat:=0
def PySem.W.Fast.tw1585674888636606906:Nat:=0
def PySem.W.Fast.tw9270779022887115303:Nat:=0
def PySem.W.Fast.tw6376502876941570915:Nat:=0
def PySem.W.Fast.tw8173742462570225017:Nat:=0
def PySem.W.Fast.tw15961206506681256059:Nat:=0
def PySem.W.Fast.tw9240963147551159554:Nat:=0
def PySem.W.Fast.tw16767212318679904775:Nat:=0
def PySem.W.Fast.tw8684456019487115995:Nat:=0
def PySem.W.Fast.tw6389047687693230928:Nat:=0
def PySem.W.Fast.tw13593762489822996226:Nat:=0
def PySem.W.Fast.tw4444233582171441360:Nat:=0
def PySem.W.Fast.tw185467358763517237:Nat:=0
def PySem.W.Fast.tw8980823579022386968:Nat:=0
def PySem.W.Fast.tw4555436750608860417:Nat:=0
def PySem.W.Fast.tw2121739725171537802:Nat:=0
def PySem.W.Fast.tw7329906743655576441:Nat:=0
def PySem.W.Fast.tw3963202915891520255:Nat:=0
def PySem.W.Fast.tw6399108321105827864:Nat:=0
def PySem.W.Fast.tw271857409015140088:Nat:=0
def PySem.W.Fast.tw16179017856682244131:Nat:=0
def PySem.W.Fast.tw7102638601188179143:Nat:=0
def PySem.W.Fast.tw14162758380179108040:Nat:=0
def PySem.W.Fast.tw5635172793336618356:Nat:=0
def PySem.W.Fast.tw4363498074951850269:Nat:=0
def PySem.W.Fast.tw12551009111287219171:Nat:=0
def PySem.W.Fast.tw3748819867080833657:Nat:=0
def PySem.W.Fast.tw8640509495256074947:Nat:=0
def PySem.W.Fast.tw4486059148029613496:Nat:=0
def PySem.W.Fast.tw11102766488730941714:Nat:=0
def PySem.W.Fast.tw4718883670795879987:Nat:=0
def PySem.W.Fast.tw14157743035054340082:Nat:=0
def PySem.W.Fast.tw15890530608643891286:Nat:=0
def PySem.W.Fast.tw2716130565716301857:Nat:=0
def PySem.W.Fast.tw4844344511984602334:Nat:=0
def PySem.W.Fast.tw426701317844844081:Nat:=0
def PySem.W.Fast.tw1033958217919696129:Nat:=0
def PySem.W.Fast.tw8003754521597885521:Nat:=0
def PySem.W.Fast.tw87772839326054420:Nat:=0
def PySem.W.Fast.tw129121967729978923:Nat:=0
def PySem.W.Fast.tw672099807203859312:Nat:=0
set_option maxRecDepth 100000 in
set_option maxHeartbeats 0 in
theorem PySem.Challenge.cw_dialyard_k82_moved_and_greater_holds : PySem.Challenge.rw_dialyard_k82_moved_and_greater.Holds := by
 w_on;o_law;k_head;(case hw=>w_witness2)
 k_fill
 refine TL.walk (l:=PySem.Challenge.rw_dialyard_k82_moved_and_greater) (x := "_law_script") (k:=11) rfl rfl ⟨rfl,by decide,by decide⟩ (fun w h Y=>PySem.W.kIn_of Y) ?F
 case F =>
  intro w mg fa h KX G hmg
  refine' TL.all_mk KX G hmg ?a0 ?l0 ?c0 ?k0 ?a1 ?l1 ?c1 ?k1 ?a2 ?l2 ?c2 ?k2 ?a3 ?l3 ?c3 ?k3 ?a4 ?l4 ?c4 ?k4 ?a5 ?l5 ?c5 ?k5 ?a6 ?l6 ?c6 ?k6 ?a7 ?l7 ?c7 ?k7 ?a8 ?l8 ?c8 ?k8 ?a9 ?l9 ?c9 ?k9 ?a10 ?l10 ?c10 ?k10 ?a11 ?l11 ?c11 ?k11 ?a12 ?l12 ?c12 ?k12 ?a13 ?l13 ?c13 ?k13 ?a14 ?l14 ?c14 ?k14 ?a15 ?l15 ?c15 ?k15 ?a16 ?l16 ?c16 ?k16 ?a17 ?l17 ?c17 ?k17 ?a18 ?l18 ?c18 ?k18 ?a19 ?l19 ?c19 ?k19 ?a20 ?l20 ?c20 ?k20 ?a21 ?l21 ?c21 ?k21 ?a22 ?l22 ?c22 ?k22 ?a23 ?l23 ?c23 ?k23 ?a24 ?l24 ?c24 ?k24 ?a25 ?l25 ?c25 ?k25 ?a26 ?l26 ?c26 ?k26 ?a27 ?l27 ?c27 ?k27 ?a28 ?l28 ?c28 ?k28 ?a29 ?l29 ?c29 ?k29 ?a30 ?l30 ?c30 ?k30 ?a31 ?l31 ?c31 ?k31 ?z0 ?z1 ?z2 ?z3 ?z4 ?z5 ?z6 ?z7 ?z8 ?z9 ?z10 ?z11 ?z12 ?z13 ?z14 ?cg0 ?cg1 ?ch1 ?cg2 ?nh2 ?nh2_0 ?nh2_1 ?nh2_2 ?dd_NoYard ?dd_YardError ?dd_NoBack ?dd_NoHour ?dd_NoName ?dd_NoNumber ?dd_NoPlate ?dd_NoRow ?dd_NoSay ?dd_NoSun ?dd_NotLit ?dd_TooMany ?ff_NoYard ?xi_NoYard ?li_NoYard ?lc_NoYard ?lk_NoYard ?ci_NoYard ?mr_NoYard ?hd_NoYard ?sa_NoYard ?na_NoYard ?sp_NoYard ?rd_NoYard ?fk_NoYard ?fa_NoYard ?fb_NoYard ?fc_NoYard ?fd_NoYard ?fe_NoYard ?em_YardError_NoYard ?ki_NoBack_NoHour_NoName_NoNumber_NoPlate_NoRow_NoSay_NoSun_NotLit_TooMany_NoYard ?ki_NoYard_NoYard ?ki_ValueError_NoYard
  (case a0=>k_is)
  (case l0=>k_is)
  (case c0=>k_is)
  (case k0=>k_is)
  (case a1=>k_is)
  (case l1=>k_is)
  (case c1=>k_is)
  (case k1=>k_is)
  (case a2=>k_is)
  (case l2=>k_is)
  (case c2=>k_is)
  (case k2=>k_is)
  (case a3=>k_is)
  (case l3=>k_is)
  (case c3=>k_is)
  (case k3=>k_is)
  (case a4=>k_is)
  (case l4=>k_is)
  (case c4=>k_is)
  (case k4=>k_is)
  (case a5=>k_is)
  (case l5=>k_is)
  (case c5=>k_is)
  (case k5=>k_is)
  (case a6=>k_is)
  (case l6=>k_is)
  (case c6=>k_is)
  (case k6=>k_is)
  (case a7=>k_is)
  (case l7=>k_is)
  (case c7=>k_is)
  (case k7=>k_is)
  (case a8=>k_is)
  (case l8=>k_is)
  (case c8=>k_is)
  (case k8=>k_is)
  (case a9=>k_is)
  (case l9=>k_is)
  (case c9=>k_is)
  (case k9=>k_is)
  (case a10=>k_is)
  (case l10=>k_is)
  (case c10=>k_is)
  (case k10=>k_is)
  (case a11=>k_is)
  (case l11=>k_is)
  (case c11=>k_is)
  (case k11=>k_is)
  (case a12=>k_is)
  (case l12=>k_is)
  (case c12=>k_is)
  (case k12=>k_is)
  (case a13=>k_is)
  (case l13=>k_is)
  (case c13=>k_is)
  (case k13=>k_is)
  (case a14=>k_is)
  (case l14=>k_is)
  (case c14=>k_is)
  (case k14=>k_is)
  (case a15=>k_is)
  (case l15=>k_is)
  (case c15=>k_is)
  (case k15=>k_is)
  (case a16=>k_is)
  (case l16=>k_is)
  (case c16=>k_is)
  (case k16=>k_is)
  (case a17=>k_is)
  (case l17=>k_is)
  (case c17=>k_is)
  (case k17=>k_is)
  (case a18=>k_is)
  (case l18=>k_is)
  (case c18=>k_is)
  (case k18=>k_is)
  (case a19=>k_is)
  (case l19=>k_is)
  (case c19=>k_is)
  (case k19=>k_is)
  (case a20=>k_is)
  (case l20=>k_is)
  (case c20=>k_is)
  (case k20=>k_is)
  (case a21=>k_is)
  (case l21=>k_is)
  (case c21=>k_is)
  (case k21=>k_is)
  (case a22=>k_is)
  (case l22=>k_is)
  (case c22=>k_is)
  (case k22=>k_is)
  (case a23=>k_is)
  (case l23=>k_is)
  (case c23=>k_is)
  (case k23=>k_is)
  (case a24=>k_is)
  (case l24=>k_is)
  (case c24=>k_is)
  (case k24=>k_is)
  (case a25=>k_is)
  (case l25=>k_is)
  (case c25=>k_is)
  (case k25=>k_is)
  (case a26=>k_is)
  (case l26=>k_is)
  (case c26=>k_is)
  (case k26=>k_is)
  (case a27=>k_is)
  (case l27=>k_is)
  (case c27=>k_is)
  (case k27=>k_is)
  (case a28=>k_is)
  (case l28=>k_is)
  (case c28=>k_is)
  (case k28=>k_is)
  (case a29=>k_is)
  (case l29=>k_is)
  (case c29=>k_is)
  (case k29=>k_is)
  (case a30=>k_is)
  (case l30=>k_is)
  (case c30=>k_is)
  (case k30=>k_is)
  (case a31=>k_is)
  (case l31=>k_is)
  (case c31=>k_is)
  (case k31=>k_is)
  (case z0=>k_is)
  (case z1=>k_is)
  (case z2=>k_is)
  (case z3=>k_is)
  (case z4=>k_is)
  (case z5=>k_is)
  (case z6=>k_is)
  (case z7=>k_is)
  (case z8=>k_is)
  (case z9=>k_is)
  (case z10=>k_is)
  (case z11=>k_is)
  (case z12=>k_is)
  (case z13=>k_is)
  (case z14=>k_is)
  (case cg0=>k_is)
  (case cg1=>k_is)
  (case ch1=>k_is)
  (case cg2=>k_is)
  (case nh2=>k_is)
  (case nh2_0=>k_is)
  (case nh2_1=>k_is)
  (case nh2_2=>k_is)
  (case dd_NoYard=>k_is)
  (case dd_YardError=>k_is)
  (case dd_NoBack=>k_is)
  (case dd_NoHour=>k_is)
  (case dd_NoName=>k_is)
  (case dd_NoNumber=>k_is)
  (case dd_NoPlate=>k_is)
  (case dd_NoRow=>k_is)
  (case dd_NoSay=>k_is)
  (case dd_NoSun=>k_is)
  (case dd_NotLit=>k_is)
  (case dd_TooMany=>k_is)
  (case ff_NoYard=>k_is)
  (case xi_NoYard=>kernel_rfl)
  (case li_NoYard=>k_is)
  (case lc_NoYard=>k_is)
  (case lk_NoYard=>k_is)
  (case ci_NoYard=>k_is)
  (case mr_NoYard=>rfl)
  (case hd_NoYard=>rfl)
  (case sa_NoYard=>k_is)
  (case na_NoYard=>k_is)
  (case sp_NoYard=>k_is)
  (case rd_NoYard=>k_is)
  (case fk_NoYard=>k_is)
  (case fa_NoYard=>k_is)
  (case fb_NoYard=>k_is)
  (case fc_NoYard=>k_is)
  (case fd_NoYard=>k_is)
  (case fe_NoYard=>k_is)
  (case em_YardError_NoYard=>kts_exm)
  (case ki_NoBack_NoHour_NoName_NoNumber_NoPlate_NoRow_NoSay_NoSun_NotLit_TooMany_NoYard=>kit_is)
  (case ki_NoYard_NoYard=>kit_is)
  (case ki_ValueError_NoYard=>kit_is)
