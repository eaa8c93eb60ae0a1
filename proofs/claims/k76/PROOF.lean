import PyProof.Rows.All
import Wide.All
import OpenK.AllK
import Wide.FinOn
import Lean
import PyProof.EqAt
import PyProof.EqKinds
import PyProof.TupleCall
import PySem.Challenge.RW_dialyard_k76_lit_counted
set_option Elab.async false
set_option linter.all false
set_option maxRecDepth 100000
set_option maxHeartbeats 4000000
namespace L2
open PySem PySem.Spec PyProof.Rows
abbrev Key:=Sum Int Str
def keyIs:Key->Value->Bool
 | .inl k,v=>Value.isInt k v
 | .inr x,v=>Value.isStrOf x v
def keyH(w:World):Key->Int
 | .inl k=>hashInt k
 | .inr x=>hashStr w x
theorem keyIs_shape:∀{k:Key}{v:Value},keyIs k v=true->(∃i t,k=Sum.inl i/\v=Value.int i t)∨(∃x t,k=Sum.inr x/\v=Value.str x t)
 | .inl i,v,h=>by
  obtain⟨t,e⟩:=Value.isInt_shape (k:=i) (v:=v) h
  exact .inl ⟨i,t,rfl,e⟩
 | .inr x,v,h=>by
  obtain⟨t,e⟩:=Value.isStrOf_shape (x:=x) (v:=v) h
  exact .inr ⟨x,t,rfl,e⟩
theorem keyIs_int(i:Int)(t:Tok):keyIs (.inl i) (.int i t)=true:=by simp[keyIs,Value.isInt]
theorem keyIs_str(x:Str)(t:Tok):keyIs (.inr x) (.str x t)=true:=by simp[keyIs,Value.isStrOf]
theorem key_ll(a b:Int):decide ((Sum.inl a:Key)=Sum.inl b)=(a==b):=by
 by_cases e:a=b
 ·subst e;simp
 ·have h:¬ (Sum.inl a:Key)=Sum.inl b:=fun q=>e (Sum.inl.inj q)
  rw[decide_eq_false h]
  exact(beq_eq_false_iff_ne.mpr e).symm
theorem key_rr(a b:Str):decide ((Sum.inr a:Key)=Sum.inr b)=decide (a=b):=by
 by_cases e:a=b
 ·subst e;simp
 ·have h:¬ (Sum.inr a:Key)=Sum.inr b:=fun q=>e (Sum.inr.inj q)
  rw[decide_eq_false h,decide_eq_false e]
theorem key_lr(a:Int)(b:Str):decide ((Sum.inl a:Key)=Sum.inr b)=false:=decide_eq_false (fun q=>nomatch q)
theorem key_rl(a:Str)(b:Int):decide ((Sum.inr a:Key)=Sum.inl b)=false:=decide_eq_false (fun q=>nomatch q)
def mixKind(prog:Program)(w:World):PySem.KeyKind prog w Key where
 is:=keyIs
 hash:=keyH w
 inj:=fun v a b ha hb=>by
  rcases keyIs_shape ha with ⟨i,t,rfl,rfl⟩|⟨x,t,rfl,rfl⟩
  ·rcases keyIs_shape hb with ⟨j,u,rfl,e⟩|⟨y,u,rfl,e⟩
   ·injection e with e1 _;rw[e1]
   ·exact nomatch e
  ·rcases keyIs_shape hb with ⟨j,u,rfl,e⟩|⟨y,u,rfl,e⟩
   ·exact nomatch e
   ·injection e with e1 _;rw[e1]
 byValue:=fun k v h=>by
  rcases keyIs_shape h with ⟨i,t,rfl,rfl⟩|⟨x,t,rfl,rfl⟩<;>rfl
 pyHash:=fun hv h=>by
  rcases keyIs_shape hv with ⟨i,t,rfl,rfl⟩|⟨x,t,rfl,rfl⟩
  ·exact wpAny_pyHash_int h
  ·exact wpAny_pyHash_str h
 eqBool:=fun hu hv h=>by
  rcases keyIs_shape hu with ⟨i,t,rfl,rfl⟩|⟨x,t,rfl,rfl⟩
  ·rcases keyIs_shape hv with ⟨j,u,rfl,rfl⟩|⟨y,u,rfl,rfl⟩
   ·rw[key_ll]at h;exact wpAny_eqBool_int h
   ·rw[key_lr]at h;exact SeqAt.EqAt.int_str i t y u _ _ _ _ h
  ·rcases keyIs_shape hv with ⟨j,u,rfl,rfl⟩|⟨y,u,rfl,rfl⟩
   ·rw[key_rl]at h;exact SeqAt.EqAt.str_int x t j u _ _ _ _ h
   ·rw[key_rr]at h;exact wpAny_eqBool_str h
 «strs»:=fun k x t v h=>by
  rcases keyIs_shape h with ⟨i,u,rfl,e⟩|⟨y,u,rfl,e⟩
  ·exact nomatch e
  ·injection e with e1 _
   subst e1
   cases v<;>rfl
theorem mixKind_int(prog:Program)(w:World)(i:Int)(t:Tok):(mixKind prog w).is (.inl i) (.int i t)=true:=keyIs_int i t
theorem mixKind_str(prog:Program)(w:World)(x:Str)(t:Tok):(mixKind prog w).is (.inr x) (.str x t)=true:=keyIs_str x t
end L2
namespace L2
open PySem PySem.Spec PyProof.Rows
inductive V where
 | non|bl (b:Bool)|int (i:Int)|str (x:Str)|byt (b:Array UInt8)|flt (b:UInt64)|ref (a:Addr)|ty (n:String)
 deriving DecidableEq
def RelV:V->Value->Prop
 | .non,u=>u=Value.none
 | .bl b,u=>u=Value.bool b
 | .int i,u=>∃t,u=Value.int i t
 | .str x,u=>∃t,u=Value.str x t
 | .byt b,u=>∃t,u=Value.bytes b t
 | .flt b,u=>∃t,u=Value.float b t
 | .ref a,u=>u=Value.ref a
 | .ty n,u=>u=Value.type n
abbrev Vals:List V->List Value->Prop:=Paired RelV
theorem Vals.length{xs:List V}{us:List Value}(r:Vals xs us):xs.length=us.length:=Paired.length r
theorem Vals.get:∀{xs:List V}{us:List Value}{i:Nat}{x:V},Vals xs us->xs[i]?=some x->∃u,us[i]?=some u/\RelV x u
 | _,_,_,_,.nil,e=>by simp at e
 | _,_,0,_,.cons r _,e=>by simp at e;subst e;exact⟨_,rfl,r⟩
 | _,_,i + 1,x,.cons _ t,e=>by
  obtain⟨u,h1,h2⟩:=Vals.get (i:=i) (x:=x) t (by simpa using e)
  exact⟨u,by simpa using h1,h2⟩
theorem Vals.set{x:V}{u:Value}(r:RelV x u):∀{xs:List V}{us:List Value}(i:Nat),Vals xs us->Vals (xs.set i x) (us.set i u)
 | _,_,_,.nil=>.nil
 | _,_,0,.cons _ t=>.cons r t
 | _,_,i + 1,.cons q t=>.cons q (Vals.set r i t)
theorem Vals.append:∀{xs ys:List V}{us ws:List Value},Vals xs us->Vals ys ws->Vals (xs++ys) (us++ws)
 | _,_,_,_,.nil,s=>s
 | _,_,_,_,.cons r t,s=>.cons r (Vals.append t s)
theorem Vals.take:∀{xs:List V}{us:List Value}(n:Nat),Vals xs us->Vals (xs.take n) (us.take n)
 | _,_,0,_=>.nil
 | _,_,_ + 1,.nil=>.nil
 | _,_,n + 1,.cons r t=>.cons r (Vals.take n t)
theorem Vals.drop:∀{xs:List V}{us:List Value}(n:Nat),Vals xs us->Vals (xs.drop n) (us.drop n)
 | _,_,0,r=>r
 | _,_,_ + 1,.nil=>.nil
 | _,_,n + 1,.cons _ t=>Vals.drop n t
def RelO:Option V->Option Value->Prop
 | some v,some u=>RelV v u
 | none,none=>True
 | _,_=>False
def KV{κ:Type}:List (κ×V)->List (κ×Value)->Prop:=Paired fun (p:κ×V) (q:κ×Value)=>p.1=q.1/\RelV p.2 q.2
def kV:Key->V
 | .inl i=>.int i
 | .inr x=>.str x
inductive HO where
 | lst (xs:List V)
 | tup (xs:List V)
 | dK (kvs:List (Key×V))|dT (kvs:List (List Key×V))
 | set (S:Int->Bool) (n:Nat)
 | ins (C dx:Addr) (fs:List (Str×V))
 | own (x:Addr)
 | xd (fs:List (Str×V))
 | met (f x:Addr)
 | rng (lo hi:Int)
 | frz (o:Obj) (u:HO)
 | tbl (ps:Array Value)
 | ext (φ:Heap->Prop)
abbrev Hp:=Addr->Option HO
def upd(H:Hp)(a:Addr)(o:HO):Hp:=fun b=>if b=a then some o else H b
theorem upd_same{H:Hp}{a:Addr}{o:HO}:upd H a o a=some o:=by unfold upd;rw[if_pos rfl]
theorem upd_ne{H:Hp}{a b:Addr}{o:HO}(h:b≠a):upd H a o b=H b:=by unfold upd;rw[if_neg h]
theorem upd_upd{H:Hp}{a:Addr}{o u:HO}:upd (upd H a o) a u=upd H a u:=by
 funext b;unfold upd;split<;>rfl
theorem ne_of{H:Hp}{a b:Addr}{o u:HO}(h:H a=some o)(h':H b=some u)(d:o≠u):a≠b:=by
 intro e;subst e;rw[h]at h';exact d (Option.some.inj h')
theorem ne_of_none{H:Hp}{a b:Addr}{o:HO}(h:H a=some o)(h':H b=none):a≠b:=by
 intro e;subst e;rw[h]at h';cases h'
section
variable (P:Program) (w:World)
def ObjOk(H:Hp)(h:Heap)(a:Addr):HO->Prop
 | .lst xs=>xs.length<=sizeLine/\∃(its:List Value) (n:Nat),Vals xs its/\h.get? a=some {cls:=.type "list", data:=.seq its.toArray n}
 | .tup xs=>xs.length<=sizeLine/\∃its:List Value,Vals xs its/\IsTup h a its.toArray
 | .dK kvs=>kvs.length<=sizeLine/\(a==sysModules)=false/\∃vs,KV kvs vs/\h.DictOf (mixKind P w) a vs
 | .dT kvs=>kvs.length<=sizeLine/\(a==sysModules)=false/\∃xs:List (List Key×Addr×Value),
   Paired (fun (p:List Key×V) (q:List Key×Addr×Value)=>p.1=q.1/\H q.2.1=some (.tup (p.1.map kV))/\RelV p.2 q.2.2) kvs xs ∧
   ∃o es ep,h.get? a=some o/\o.ExactDict/\o.data=.dict es ep/\es.toList=xs.map (entryOfKey (tupleKind (mixKind P w)))/\(xs.map (·.1)).Nodup
 | .set S n=>h.SetOf (intKind P w) a S n
 | .ins C dx fs=>H dx=some (.own a)/\fs.length<=1000/\dx≠a/\h.get? a=some (PySem.W.instObj C dx) ∧
   ∃mA,h.Ns1 dx mA/\(∀f,RelO (fs.lookup f) (mA f))/\PySem.Within mA (fs.map (·.1))
 | .own _=>∃o,h.get? a=some o
 | .xd fs=>∃mA,h.Ns1 a mA/\∀f,RelO (fs.lookup f) (mA f)
 | .rng lo hi=>∃t u v,h.get? a=some {cls:=.type "range", data:=.fields #[.int lo t,.int hi u,.int 1 v]}
 | .frz o u=>h.get? a=some o/\ObjOk H h a u
 | .tbl ps=>h.get? a=some {cls:=.none,data:=.fields ps}
 | .met f x=>h.get? a=some (PySem.W.methodObj (.ref f) (.ref x))
 | .ext φ=>φ h/\(∃o,h.get? a=some o)/\∀h1 h2:Heap,φ h1->(∀o,h1.get? a=some o->h2.get? a=some o)->φ h2
def HOk(H:Hp)(h:Heap):Prop:=∀a o,H a=some o->ObjOk P w H h a o
end
section
variable {P:Program} {w:World} {H H':Hp} {h h':Heap} {a:Addr} {o:HO}
theorem ObjOk.lt(x:ObjOk P w H h a o):a < h.objs.size:=by
 cases o with
 | lst xs=>obtain⟨_,_,_,_,e⟩:=x;exact Heap.lt_size e
 | tup xs=>obtain⟨_,_,_,p⟩:=x;exact p.lt
 | dK kvs=>obtain⟨_,_,_,_,o,_,_,e,_⟩:=x;exact Heap.lt_size e
 | dT kvs=>obtain⟨_,_,_,_,o,_,_,e,_⟩:=x;exact Heap.lt_size e
 | set S n=>obtain⟨o,_,_,_,e,_⟩:=x;exact Heap.lt_size e
 | ins C dx fs=>obtain⟨_,_,_,e,_⟩:=x;exact Heap.lt_size e
 | own y=>obtain⟨_,e⟩:=x;exact Heap.lt_size e
 | xd fs=>obtain⟨_,⟨_,_,_,e,_⟩,_⟩:=x;exact Heap.lt_size e
 | rng lo hi=>obtain⟨_,_,_,e⟩:=x;exact Heap.lt_size e
 | frz ob u=>obtain⟨e,_⟩:=x;exact Heap.lt_size e
 | tbl ps=>exact Heap.lt_size (show h.get? a=some _ from x)
 | met f y=>exact Heap.lt_size (show h.get? a=some _ from x)
 | ext φ=>obtain⟨_,⟨_,e⟩,_⟩:=x;exact Heap.lt_size e
theorem Paired.mapP{α β:Type}{F G:α->β->Prop}:∀{l₁:List α}{l₂:List β},Paired F l₁ l₂->(∀a b,F a b->G a b)->Paired G l₁ l₂
 | _,_,.nil,_=>.nil
 | _,_,.cons r t,f=>.cons (f _ _ r) (Paired.mapP t f)
theorem ObjOk.stay(x:ObjOk P w H h a o)(k:∀b u,(b=a∨H b=some (.own a))->h.get? b=some u->h'.get? b=some u)
  (ho:∀b,H b=some (.own a)->H' b=some (.own a)) (ht:∀b xs,H b=some (.tup xs)->H' b=some (.tup xs)):ObjOk P w H' h' a o:=by
 induction o with
 | lst xs=>obtain⟨z,its,n,r,e⟩:=x;exact⟨z,its,n,r,k _ _ (.inl rfl) e⟩
 | tup xs=>obtain⟨z,its,r,ob,e,c⟩:=x;exact⟨z,its,r,ob,k _ _ (.inl rfl) e,c⟩
 | dK kvs=>obtain⟨z,y,vs,r,ob,es,ep,e,c⟩:=x;exact⟨z,y,vs,r,ob,es,ep,k _ _ (.inl rfl) e,c⟩
 | dT kvs =>
  obtain⟨z,y,xs,r,ob,es,ep,e,c⟩:=x
  exact⟨z,y,xs,Paired.mapP r fun p q z=>⟨z.1,ht _ _ z.2.1,z.2.2⟩,ob,es,ep,k _ _ (.inl rfl) e,c⟩
 | set S n=>obtain⟨ob,es,ep,t,e,c⟩:=x;exact⟨ob,es,ep,t,k _ _ (.inl rfl) e,c⟩
 | ins C dx fs =>
  obtain⟨d,z,ne,e,mA,⟨od,es,ep,e2,c⟩,r⟩:=x
  exact⟨ho _ d,z,ne,k _ _ (.inl rfl) e,mA,⟨od,es,ep,k _ _ (.inr d) e2,c⟩,r⟩
 | own y=>obtain⟨ob,e⟩:=x;exact⟨ob,k _ _ (.inl rfl) e⟩
 | xd fs=>obtain⟨mA,⟨od,es,ep,e,c⟩,r⟩:=x;exact⟨mA,⟨od,es,ep,k _ _ (.inl rfl) e,c⟩,r⟩
 | rng lo hi=>obtain⟨t,u,v,e⟩:=x;exact⟨t,u,v,k _ _ (.inl rfl) e⟩
 | frz ob u ih=>obtain⟨e,q⟩:=x;exact⟨k _ _ (.inl rfl) e,ih q⟩
 | tbl ps =>
  have e:h.get? a=some {cls:=.none,data:=.fields ps}:=x
  show h'.get? a=some {cls:=.none,data:=.fields ps}
  exact k a _ (.inl rfl) e
 | met f y =>
  have e:h.get? a=some (PySem.W.methodObj (.ref f) (.ref y)):=x
  show h'.get? a=some (PySem.W.methodObj (.ref f) (.ref y))
  exact k a _ (.inl rfl) e
 | ext φ=>obtain⟨p,⟨o,e⟩,st⟩:=x;exact⟨st _ _ p fun o q=>k _ _ (.inl rfl) q,⟨o,k _ _ (.inl rfl) e⟩,st⟩
theorem HOk.lt(x:HOk P w H h)(e:H a=some o):a < h.objs.size:=(x a o e).lt
theorem HOk.fresh(x:HOk P w H h)(e:h.objs.size<=a):H a=none:=by
 cases q:H a with
 | none=>rfl
 | some u=>exact absurd (Nat.lt_of_lt_of_le (x.lt q) e) (Nat.lt_irrefl _)
theorem HOk.kept(x:HOk P w H h)(k:∀b u,h.get? b=some u->h'.get? b=some u):HOk P w H h':=fun a o e =>
 (x a o e).stay (fun b u _ q=>k b u q) (fun _ q=>q) fun _ _ q=>q
theorem HOk.laid(x:HOk P w H h)(k:∀b u,h.get? b=some u->h'.get? b=some u)(hp:h.objs.size<=a)(new:ObjOk P w (upd H a o) h' a o):HOk P w (upd H a o) h':=fun b u e=>by
 have hn:=x.fresh hp
 by_cases hb:b=a
 ·subst hb;rw[upd_same]at e;cases e;exact new
 ·rw[upd_ne hb]at e
  exact(x b u e).stay (fun c v _ q=>k c v q) (fun c q=>by rw[upd_ne (ne_of_none q hn)];exact q) fun c xs q=>by rw[upd_ne (ne_of_none q hn)];exact q
end
def Rd(H:Hp)(a:Addr)(u:HO):Prop:=H a=some u∨∃o,H a=some (.frz o u)
theorem Rd.of{H:Hp}{a:Addr}{u:HO}(h:H a=some u):Rd H a u:=.inl h
theorem Rd.ok{P:Program}{w:World}{H:Hp}{h:Heap}{a:Addr}{u:HO}(r:Rd H a u)(x:HOk P w H h):ObjOk P w H h a u:=by
 rcases r with r|⟨o,r⟩
 ·exact x a u r
 ·obtain⟨_,q⟩:=x a _ r
  exact q
def Mut:Option HO->Prop
 | some (.lst _)=>True
 | some (.dK _)=>True
 | some (.dT _)=>True
 | some (.set _ _)=>True
 | some (.ins _ _ _)=>True
 | some (.ext _)=>True
 | _=>False
section
variable {P:Program} {w:World} {H:Hp} {h h':Heap} {x e:Addr} {o':HO}
theorem HOk.write(ok:HOk P w H h)(mu:Mut (H x))(he:e=x∨H e=some (.own x))(k:∀b u,b≠e->h.get? b=some u->h'.get? b=some u)(heo:∃u,h'.get? e=some u)
  (new:ObjOk P w (upd H x o') h' x o'):HOk P w (upd H x o') h':=fun b u q=>by
 have nown:∀c y,H c=some (.own y)->c≠x:=fun c y r z=>by subst z;rw[r]at mu;exact mu
 have ntup:∀c xs,H c=some (.tup xs)->c≠x:=fun c xs r z=>by subst z;rw[r]at mu;exact mu
 by_cases hb:b=x
 ·subst hb;rw[upd_same]at q;cases q;exact new
 ·rw[upd_ne hb]at q
  by_cases hbe:b=e
  ·have q':H b=some (.own x):=by
    rcases he with z|z
    ·exact absurd (hbe.trans z) hb
    ·rw[hbe];exact z
   rw[q]at q';cases q'
   obtain⟨v,hv⟩:=heo
   exact⟨v,by rw[hbe];exact hv⟩
  ·refine(ok b u q).stay (fun c v hc r=>k c v ?_ r) (fun c r=>by rw[upd_ne (nown c b r)];exact r) fun c xs r=>by rw[upd_ne (ntup c xs r)];exact r
   rcases hc with rfl|hc
   ·exact hbe
   ·rintro rfl
    rcases he with z|z
    ·exact nown c b hc z
    ·rw[hc]at z;cases z;exact hb rfl
end
structure Un(fs ex:List Addr)(H H':Hp)(h h':Heap):Prop where
 keep:∀b o,h.get? b=some o->H b=none->b∉fs->b∉ex->h'.get? b=some o
 slot:∀b o,h.get? b=some o->H b=none->b∈fs->b∉ex->∃sl,h'.get? b=some {o with slots:=sl}
 free:∀b o,h.get? b=some o->H b=none->b∉ex->H' b=none
 there:∀b o,h.get? b=some o->b∉ex->∃o',h'.get? b=some o'
 tups:∀b xs,H b=some (.tup xs)->H' b=some (.tup xs)
 frzs:∀b o u,H b=some (.frz o u)->H' b=some (.frz o u)
 tbls:∀b ps,H b=some (.tbl ps)->∃more,H' b=some (.tbl (ps++more))
section
variable {fs fs' ex ex':List Addr} {H H1 H2:Hp} {h h1 h2 h':Heap} {a x e:Addr} {o:HO}
theorem Un.any(u:Un fs ex H H1 h h1){b:Addr}{ob:Obj}(q:h.get? b=some ob)(n:H b=none)(hx:b∉ex):∃sl,h1.get? b=some {ob with slots:=sl}:=by
 by_cases hb:b∈fs
 ·exact u.slot b ob q n hb hx
 ·exact⟨ob.slots,u.keep b ob q n hb hx⟩
theorem Un.trans(a:Un fs ex H H1 h h1)(b:Un fs ex H1 H2 h1 h2):Un fs ex H H2 h h2 where
 keep:=fun c ob q n hc hx=>b.keep c ob (a.keep c ob q n hc hx) (a.free c ob q n hx) hc hx
 slot:=fun c ob q n hc hx=>by
  obtain⟨sl,e1⟩:=a.slot c ob q n hc hx
  obtain⟨sl',e2⟩:=b.slot c _ e1 (a.free c ob q n hx) hc hx
  exact⟨sl',e2⟩
 free:=fun c ob q n hx=>by
  obtain⟨o',e1⟩:=a.there c ob q hx
  exact b.free c o' e1 (a.free c ob q n hx) hx
 there:=fun c ob q hx=>by
  obtain⟨o',e1⟩:=a.there c ob q hx
  exact b.there c o' e1 hx
 tups:=fun c xs q=>b.tups c xs (a.tups c xs q)
 frzs:=fun c ob xs q=>b.frzs c ob xs (a.frzs c ob xs q)
 tbls:=fun c ps q=>by
  obtain⟨m1,e1⟩:=a.tbls c ps q
  obtain⟨m2,e2⟩:=b.tbls c _ e1
  exact⟨m1++m2,by rw[e2,Array.append_assoc]⟩
theorem Un.kept(k:∀b u,h.get? b=some u->h'.get? b=some u):Un fs ex H H h h' :=
 ⟨fun b ob q _ _ _=>k b ob q,fun b ob q _ _ _=>⟨ob.slots,k b ob q⟩,fun _ _ _ n _=>n,fun b ob q _=>⟨ob,k b ob q⟩,fun _ _ q=>q,fun _ _ _ q=>q,fun _ ps q=>⟨#[],by rw[q];simp⟩⟩
theorem Un.refl:Un fs ex H H h h:=Un.kept fun _ _ q=>q
theorem Un.laid(k:∀b u,h.get? b=some u->h'.get? b=some u)(hp:h.objs.size<=a)(hn:H a=none):Un fs ex H (upd H a o) h h' where
 keep:=fun b u q _ _ _=>k b u q
 slot:=fun b u q _ _ _=>⟨u.slots,k b u q⟩
 free:=fun b u q n _=>by rw[upd_ne (Nat.ne_of_lt (Nat.lt_of_lt_of_le (Heap.lt_size q) hp))];exact n
 there:=fun b u q _=>⟨u,k b u q⟩
 tups:=fun b xs q=>by rw[upd_ne (ne_of_none q hn)];exact q
 frzs:=fun b u xs q=>by rw[upd_ne (ne_of_none q hn)];exact q
 tbls:=fun b ps q=>⟨#[],by rw[upd_ne (ne_of_none q hn),q];simp⟩
theorem Un.write(mu:Mut (H x))(he:e=x∨H e=some (.own x))(k:∀b u,b≠e->h.get? b=some u->h'.get? b=some u)(heo:∃u,h'.get? e=some u):Un fs ex H (upd H x o) h h':=by
 have hx:∀b,H b=none->b≠x:=fun b n z=>by subst z;rw[n]at mu;exact mu
 have hb:∀b,H b=none->b≠e:=fun b n z=>by
  subst z
  rcases he with r|r
  ·exact hx b n r
  ·rw[n]at r;cases r
 have hm:∀b u,H b=some u->¬ Mut (some u)->b≠x:=fun b u q nm z=>by subst z;rw[q]at mu;exact nm mu
 refine⟨fun b u q n _ _=>k b u (hb b n) q,fun b u q n _ _=>⟨u.slots,k b u (hb b n) q⟩,fun b u q n _=>by rw[upd_ne (hx b n)];exact n,fun b u q _=>?_,
  fun b xs q=>by rw[upd_ne (hm b _ q fun z=>z)];exact q,fun b u xs q=>by rw[upd_ne (hm b _ q fun z=>z)];exact q,fun b ps q=>⟨#[],by rw[upd_ne (hm b _ q fun z=>z),q];simp⟩⟩
 by_cases hbe:b=e
 ·subst hbe;exact heo
 ·exact⟨u,k b u hbe q⟩
theorem Un.mono(u:Un fs ex H H1 h h1)(hs:∀b∈fs,b∈fs')(hx:∀b∈ex,b∈ex'):Un fs' ex' H H1 h h1 :=
 ⟨fun b ob q n hb he=>u.keep b ob q n (fun z=>hb (hs b z)) fun z=>he (hx b z),fun _ _ q n _ he=>u.any q n fun z=>he (hx _ z),fun b ob q n he=>u.free b ob q n fun z=>he (hx b z),fun b ob q he=>u.there b ob q fun z=>he (hx b z),u.tups,u.frzs,u.tbls⟩
end
def trk(h:Heap)(H:Hp):List Addr:=(List.range h.objs.size).filter fun a=>(H a).isSome
def hidT(h:Heap)(H:Hp):Heap:=PySem.W.hideAll h (trk h H)
theorem hidT_size(h:Heap)(H:Hp):(hidT h H).objs.size=h.objs.size:=PySem.W.hideAll_size _ _
theorem hidT_get{h:Heap}{H:Hp}{b:Addr}{o:Obj}(e:h.get? b=some o)(n:H b=none):(hidT h H).get? b=some o :=
 PySem.W.hideAll_get _ e fun hm=>by
  have q:(H b).isSome=true:=(List.mem_filter.mp hm).2
  rw[n]at q;simp at q
theorem of_hidT{h:Heap}{H:Hp}{b:Addr}{o:Obj}(e:(hidT h H).get? b=some o):h.get? b=some o/\H b=none:=by
 have e':h.get? b=some o:=PySem.W.of_hideAll (trk h H) e
 refine⟨e',?_⟩
 cases q:H b with
 | none=>rfl
 | some x =>
  have hm:b∈trk h H:=List.mem_filter.mpr ⟨List.mem_range.mpr (Heap.lt_size e'),by simp[q]⟩
  have z:(hidT h H).get? b=none:=PySem.W.hideAll_none (trk h H) hm
  rw[z]at e;cases e
def allNews(g h:Heap)(L:Addr):List (Addr×Obj):=(List.range h.objs.size).filterMap fun a=>if a=L∨(g.get? a).isSome=true then none else (h.get? a).map fun o=>(a,o)
def rest(g h:Heap)(L d:Addr):List (Addr×Obj):=(allNews g h L).filter fun p=>decide (p.1≠d)
end L2
namespace L2
open PySem PySem.Spec PyProof.Rows
structure Mod(K:PySem.W.Frag)(mg:Str->Option Value)(base:Heap):Prop where
 kin:K.In base
 glob:base.Ns mainGlobals mg
 blt:∃mb,base.Ns builtinsNs mb/\∀x:Str,x ≠ "__name__" -> mb x=bootBuiltins x
 nolimit:base.NoLimit
structure Cx where
 prog:Program
 w:World
 K:PySem.W.Frag
 mg:Str->Option Value
 base:Heap
 A:Around
 N:List Str
 s₀:Shared
 H₀:Hp
 env:Env
 outer:List Env
 stack:List Env
 ex:List Addr
 fn:Str->Bool
 calm:Bool
 pn:List (Addr×Obj)
 xe:Value->Shared->Prop
def frs(l:List Env):List Addr:=l.filterMap (·.frame)
abbrev Cx.fs(X:Cx):List Addr:=frs X.outer
def Vis(sc:Scope)(x:Str):Prop:=sc.names.lookup x=some .local∨sc.names.lookup x=some .cell∨sc.names.lookup x=some .free
def Loc(sc:Scope)(x:Str):Prop:=sc.names.lookup x=some .local∨sc.names.lookup x=some .cell
def Look(env:Env)(h:Heap)(m:Str->Option Value)(x:Str)(u:Value):Prop :=
 (env.kindOf x=some .local/\m x=some u)∨((env.kindOf x=some .cell∨env.kindOf x=some .free)/\∃c,env.cells.lookup x=some c/\h.IsCell c (some u))
structure Cx.Ok(X:Cx):Prop where
 mod:Mod X.K X.mg X.base
 kind:X.env.scope.kind=.function
 glob:X.env.globals=mainGlobals
 blt:X.env.builtins=builtinsNs
 above:X.s₀.heap.objs.size<=X.env.locals
 inj:∀x y c,X.env.cells.lookup x=some c->X.env.cells.lookup y=some c->x=y
 has:∀x,(X.env.kindOf x=some .cell∨X.env.kindOf x=some .free)->∃c,X.env.cells.lookup x=some c
 cab:∀x c,X.fn x=true->X.env.cells.lookup x=some c->X.s₀.heap.objs.size<=c
 hd:X.calm=true->X.A.handled=none
 frames:X.A.frames=some X.stack
 stk:X.stack=X.outer∨(X.stack=X.env::X.outer/\X.env.frame=some X.env.locals)
 exf:∀b∈X.ex,b≠X.env.locals/\∀x c,X.env.cells.lookup x=some c->c≠b
 bs:∀b o,X.base.get? b=some o->X.s₀.heap.get? b=some o/\X.H₀ b=none
 bsz:X.base.objs.size<=X.s₀.heap.objs.size
 noex:∀b o,X.base.get? b=some o->b∉X.ex
 exfs:∀b∈X.ex,b∉X.fs
 funs:X.s₀.heap.FunFrames X.base X.outer
 frf:∀b∈X.fs,X.H₀ b=none
structure Inv(X:Cx)(pins:List (Addr×Obj))(σ:List (Option V))(H:Hp)(s:Shared):Prop where
 ok:X.Ok
 os:s.os=X.s₀.os
 bare:AllBare s.gens
 base:Un X.fs X.ex X.H₀ H X.s₀.heap s.heap
 loc:∃m,s.heap.Ns X.env.locals m/\∀(i:Nat)(x:Str)(v:V),X.N[i]?=some x->σ[i]?=some (some v)->Vis X.env.scope x->∃u,RelV v u/\Look X.env s.heap m x u
 cell:∀x c,X.env.cells.lookup x=some c->∃v,s.heap.IsCell c v
 free:H X.env.locals=none
 freeC:∀x c,X.env.cells.lookup x=some c->H c=none
 pin:∀p∈X.pn++pins,s.heap.get? p.1=some p.2/\H p.1=none/\p.1≠X.env.locals/\p.1∉X.fs/\∀v,p.2.data ≠ .cell v
 hok:HOk X.prog X.w H s.heap
 len:σ.length=X.N.length
section
variable {X:Cx} {pins:List (Addr×Obj)} {σ:List (Option V)} {H H':Hp} {s:Shared} {h':Heap}
theorem Cx.Ok.nofr(ok:X.Ok){b:Addr}{o:Obj}(e:X.base.get? b=some o):b∉X.fs:=fun hb=>by
 have:=(ok.funs.mem hb).1
 rw[e]at this;cases this
theorem Inv.bs(I:Inv X pins σ H s):∀b o,X.base.get? b=some o->s.heap.get? b=some o/\H b=none:=fun b o e =>
 ⟨I.base.keep b o (I.ok.bs b o e).1 (I.ok.bs b o e).2 (I.ok.nofr e) (I.ok.noex b o e),I.base.free b o (I.ok.bs b o e).1 (I.ok.bs b o e).2 (I.ok.noex b o e)⟩
theorem Inv.bk(I:Inv X pins σ H s):∀b o,X.base.get? b=some o->s.heap.get? b=some o:=fun b o e=>(I.bs b o e).1
theorem Inv.mod(I:Inv X pins σ H s):Mod X.K X.mg X.base:=I.ok.mod
theorem Inv.kIn(I:Inv X pins σ H s):X.K.In s.heap:=I.ok.mod.kin.keeps I.bk
theorem Inv.nolimit(I:Inv X pins σ H s):s.heap.NoLimit:=I.ok.mod.nolimit.keeps I.bk
theorem Inv.lt(I:Inv X pins σ H s):X.env.locals < s.heap.objs.size:=let ⟨_,hn,_⟩:=I.loc;hn.lt
theorem Inv.sz(I:Inv X pins σ H s):X.s₀.heap.objs.size<=s.heap.objs.size:=Nat.le_trans I.ok.above (Nat.le_of_lt I.lt)
theorem Inv.nofs(I:Inv X pins σ H s){a:Addr}(h:s.heap.objs.size<=a):a∉X.fs:=fun hb=>by
 obtain⟨_,o,ho,_⟩:=I.ok.funs.mem hb
 exact absurd (Nat.lt_of_lt_of_le (Heap.lt_size ho) (Nat.le_trans I.sz h)) (Nat.lt_irrefl _)
theorem Inv.cne(I:Inv X pins σ H s):∀x c,X.env.cells.lookup x=some c->c≠X.env.locals:=fun x c e z=>by
 obtain⟨v,o,ho,hd⟩:=I.cell x c e
 obtain⟨m,⟨o',es,ep,ho',hd',_⟩,_⟩:=I.loc
 rw[z,ho']at ho;cases ho;rw[hd']at hd;cases hd
theorem Inv.funs(I:Inv X pins σ H s):s.heap.FunFrames X.base X.outer:=by
 have all:∀(l:List Env),(∀b∈frs l,b∈X.fs)->X.s₀.heap.FunFrames X.base l->s.heap.FunFrames X.base l:=by
  intro l
  induction l with
  | nil=>intro _ _;trivial
  | cons env r ih =>
   intro hs hl
   obtain⟨hk,⟨L,o,hf,hn,ho,hd⟩,hr⟩:=hl
   have hL:L∈X.fs:=hs L (by unfold frs;rw[List.filterMap_cons,hf];exact List.mem_cons_self)
   obtain⟨sl,e⟩:=I.base.slot L o ho (I.ok.frf L hL) hL fun z=>I.ok.exfs L z hL
   exact⟨hk,⟨L,_,hf,hn,e,hd⟩,ih (fun b hb=>hs b (by unfold frs;rw[List.filterMap_cons,hf];exact List.mem_cons_of_mem _ hb)) hr⟩
 exact all X.outer (fun _ hb=>hb) I.ok.funs
theorem Inv.stack(I:Inv X pins σ H s):s.heap.FunFrames X.base X.stack:=by
 rcases I.ok.stk with e|⟨e,hf⟩
 ·rw[e];exact I.funs
 ·rw[e]
  obtain⟨m,hn,_⟩:=I.loc
  refine .cons (by rw[I.ok.kind];decide) hf hn ?_ I.funs
  exact Heap.get?_none_of_le (Nat.le_trans I.ok.bsz I.ok.above)
theorem Inv.stkSub(I:Inv X pins σ H s):∀b∈frs X.stack,b∈X.env.locals::X.fs:=fun b hb=>by
 rcases I.ok.stk with e|⟨e,hf⟩
 ·rw[e]at hb;exact List.mem_cons_of_mem _ hb
 ·rw[e]at hb
  unfold frs at hb
  rw[List.filterMap_cons,hf]at hb
  exact hb
theorem Inv.stkFree(I:Inv X pins σ H s):∀b∈frs X.stack,H b=none:=fun b hb=>by
 rcases List.mem_cons.mp (I.stkSub b hb) with e|hb
 ·rw[e];exact I.free
 ·obtain⟨_,o,ho,_⟩:=I.ok.funs.mem hb
  exact I.base.free b o ho (I.ok.frf b hb) fun z=>I.ok.exfs b z hb
theorem Inv.step{g':Array GenState}{t':Nat}{d':Drawn}{ch:List Addr}(I:Inv X pins σ H s)
  (hch:∀b∈ch,(b∈X.ex∨X.s₀.heap.objs.size<=b)/\b≠X.env.locals/\(∀x c,X.env.cells.lookup x=some c->c≠b)/\∀p∈X.pn++pins,p.1≠b)
  (keep:∀b o,b≠X.env.locals->b∉X.fs->b∉ch->s.heap.get? b=some o->H b=none->h'.get? b=some o)
  (slot:∀b o,b≠X.env.locals->b∈X.fs->b∉ch->s.heap.get? b=some o->H b=none->∃sl,h'.get? b=some {o with slots:=sl}) (free:∀b o,b∉ch->s.heap.get? b=some o->H b=none->H' b=none)
  (there:∀b o,b∉ch->s.heap.get? b=some o->∃o',h'.get? b=some o')
  (tups:∀b xs,H b=some (.tup xs)->H' b=some (.tup xs)) (frzs:∀b o u,H b=some (.frz o u)->H' b=some (.frz o u)) (tbls:∀b ps,H b=some (.tbl ps)->∃more,H' b=some (.tbl (ps++more)))
  (ns:∀m,s.heap.Ns X.env.locals m->h'.Ns X.env.locals m) (hok:HOk X.prog X.w H' h') (hg:AllBare g') :
  Inv X pins σ H' {s with heap:=h',gens:=g',drawn:=d',toks:=t' }:=by
 have neL:∀b o,X.s₀.heap.get? b=some o->b≠X.env.locals:=fun b o e=>Nat.ne_of_lt (Nat.lt_of_lt_of_le (Heap.lt_size e) I.ok.above)
 have neC:∀b o,X.s₀.heap.get? b=some o->b∉X.ex->b∉ch:=fun b o e hx hb=>by
  rcases (hch b hb).1 with z|z
  ·exact hx z
  ·exact absurd (Nat.lt_of_lt_of_le (Heap.lt_size e) z) (Nat.lt_irrefl _)
 have cellK:∀x c,X.env.cells.lookup x=some c->∀v,s.heap.IsCell c v->h'.IsCell c v:=fun x c e v ⟨o,ho,hd⟩=>by
  have nch:c∉ch:=fun z=>(hch c z).2.2.1 x c e rfl
  by_cases hc:c∈X.fs
  ·obtain⟨sl,q⟩:=slot c o (I.cne x c e) hc nch ho (I.freeC x c e)
   exact⟨_,q,hd⟩
  ·exact⟨o,keep c o (I.cne x c e) hc nch ho (I.freeC x c e),hd⟩
 refine⟨I.ok,I.os,hg,⟨fun b o e n hb hx=>?_,fun b o e n hb hx=>?_,fun b o e n hx=>?_,fun b o e hx=>?_,fun b xs e=>tups b xs (I.base.tups b xs e),fun b o xs e=>frzs b o xs (I.base.frzs b o xs e),fun b ps e=>?_⟩,?_,fun x c e=>?_,?_,fun x c e=>?_,fun p hp=>?_,hok,I.len⟩
 ·exact keep b o (neL b o e) hb (neC b o e hx) (I.base.keep b o e n hb hx) (I.base.free b o e n hx)
 ·obtain⟨sl,e1⟩:=I.base.slot b o e n hb hx
  obtain⟨sl',e2⟩:=slot b _ (neL b o e) hb (neC b o e hx) e1 (I.base.free b o e n hx)
  exact⟨sl',e2⟩
 ·obtain⟨o',e1⟩:=I.base.there b o e hx
  exact free b o' (neC b o e hx) e1 (I.base.free b o e n hx)
 ·obtain⟨o',e1⟩:=I.base.there b o e hx
  exact there b o' (neC b o e hx) e1
 ·obtain⟨m1,e1⟩:=I.base.tbls b ps e
  obtain⟨m2,e2⟩:=tbls b _ e1
  exact⟨m1++m2,by rw[e2,Array.append_assoc]⟩
 ·obtain⟨m,hn,hl⟩:=I.loc
  refine⟨m,ns m hn,fun i x v e1 e2 e3=>?_⟩
  obtain⟨u,r,l⟩:=hl i x v e1 e2 e3
  refine⟨u,r,?_⟩
  rcases l with l|⟨k,c,e,z⟩
  ·exact .inl l
  ·exact .inr ⟨k,c,e,cellK x c e _ z⟩
 ·obtain⟨v,z⟩:=I.cell x c e
  exact⟨v,cellK x c e v z⟩
 ·obtain⟨m,⟨o,_,_,ho,_⟩,_⟩:=I.loc
  exact free _ o (fun z=>(hch _ z).2.1 rfl) ho I.free
 ·obtain⟨v,o,ho,hd⟩:=I.cell x c e
  exact free c o (fun z=>(hch c z).2.2.1 x c e rfl) ho (I.freeC x c e)
 ·obtain⟨e,n,ne,nf,d⟩:=I.pin p hp
  have nch:p.1∉ch:=fun z=>(hch p.1 z).2.2.2 p hp rfl
  exact⟨keep p.1 p.2 ne nf nch e n,free p.1 p.2 nch e n,ne,nf,d⟩
theorem Inv.un{t':Nat}(I:Inv X pins σ H s)(u:Un X.fs [] H H' s.heap h')(hok:HOk X.prog X.w H' h'):Inv X pins σ H' {s with heap:=h',toks:=t' }:=by
 obtain⟨m,⟨o,es,ep,ho,r⟩,_⟩:=id I.loc
 obtain⟨sl,hL⟩:=u.any ho I.free (by simp)
 exact I.step (g':=s.gens) (d':=s.drawn) (ch:=[]) (fun _ z=>nomatch z) (fun b o _ hb _ e n=>u.keep b o e n hb (by simp)) (fun b o _ hb _ e n=>u.slot b o e n hb (by simp)) (fun b o _ e n=>u.free b o e n (by simp)) (fun b o _ e=>u.there b o e (by simp)) u.tups u.frzs u.tbls (fun m' hm=>by
  obtain⟨o',es',ep',ho',r'⟩:=hm
  rw[ho]at ho';cases ho'
  exact⟨_,es',ep',hL,r'⟩) hok I.bare
theorem Inv.call{g':Array GenState}{t':Nat}{d':Drawn}{ch:List Addr}(I:Inv X pins σ H s)(u:Un (frs X.stack) ch H H' s.heap h')(hok:HOk X.prog X.w H' h')(hg:AllBare g')
  (hch:∀b∈ch,(b∈X.ex∨X.s₀.heap.objs.size<=b)/\b≠X.env.locals/\(∀x c,X.env.cells.lookup x=some c->c≠b)/\∀p∈X.pn++pins,p.1≠b) :
  Inv X pins σ H' {s with heap:=h',gens:=g',drawn:=d',toks:=t' }:=by
 obtain⟨m,⟨o,es,ep,ho,r⟩,_⟩:=id I.loc
 obtain⟨sl,hL⟩:=u.any ho I.free fun z=>(hch _ z).2.1 rfl
 exact I.step (ch:=ch) hch (fun b o hL hb hc e n=>u.keep b o e n (fun z=>(List.mem_cons.mp (I.stkSub b z)).elim hL hb) hc) (fun b o _ _ hc e n=>u.any e n hc) (fun b o hc e n=>u.free b o e n hc) (fun b o hc e=>u.there b o e hc) u.tups u.frzs u.tbls (fun m' hm=>by
  obtain⟨o',es',ep',ho',r'⟩:=hm
  rw[ho]at ho';cases ho'
  exact⟨_,es',ep',hL,r'⟩) hok hg
theorem Inv.turned{t':Nat}{it:Addr}(I:Inv X pins σ H s)(k:∀b o,b≠it->s.heap.get? b=some o->h'.get? b=some o)(hn:H it=none)(hL:it≠X.env.locals)
  (h1:it∈X.ex∨X.s₀.heap.objs.size<=it) (h2:∀x c,X.env.cells.lookup x=some c->c≠it) (h3:∀p∈X.pn++pins,p.1≠it):Inv X pins σ H {s with heap:=h',toks:=t' }:=by
 have nit:∀b u,H b=some u->b≠it:=fun b u e z=>by rw[z,hn]at e;cases e
 refine I.step (g':=s.gens) (d':=s.drawn) (ch:=[it]) (fun b hb=>?_) (fun b o _ _ hc e _=>k b o (fun z=>hc (by simp[z])) e) (fun b o _ _ hc e _=>⟨o.slots,k b o (fun z=>hc (by simp[z])) e⟩) (fun _ _ _ _ n=>n)
  (fun b o hc e=>⟨o,k b o (fun z=>hc (by simp[z])) e⟩) (fun _ _ e=>e) (fun _ _ _ e=>e) (fun b ps e=>⟨#[],by rw[e];simp⟩) (fun m hm=>?_) (fun b u e=>?_) I.bare
 ·have e:b=it:=by simpa using hb
  subst e
  exact⟨h1,hL,h2,h3⟩
 ·obtain⟨o,es,ep,ho,r⟩:=hm
  exact⟨o,es,ep,k _ o (Ne.symm hL) ho,r⟩
 ·refine(I.hok b u e).stay (fun c v hc q=>k c v ?_ q) (fun _ q=>q) fun _ _ q=>q
  rcases hc with z|z
  ·rw[z];exact nit b u e
  ·exact nit c _ z
theorem Inv.tok(I:Inv X pins σ H s)(t:Nat):Inv X pins σ H {s with toks:=t}:=I.un (h':=s.heap) (t':=t) Un.refl I.hok
theorem Inv.kept{t':Nat}(I:Inv X pins σ H s)(k:∀b u,s.heap.get? b=some u->h'.get? b=some u):Inv X pins σ H {s with heap:=h',toks:=t' }:=I.un (Un.kept k) (I.hok.kept k)
theorem Inv.laid{a:Addr}{o:HO}{t':Nat}(I:Inv X pins σ H s)(k:∀b u,s.heap.get? b=some u->h'.get? b=some u)(hp:s.heap.objs.size<=a)(new:ObjOk X.prog X.w (upd H a o) h' a o) :
  Inv X pins σ (upd H a o) {s with heap:=h',toks:=t' }:=I.un (Un.laid k hp (I.hok.fresh hp)) (I.hok.laid k hp new)
theorem Inv.write{x e:Addr}{o:HO}{t':Nat}(I:Inv X pins σ H s)(mu:Mut (H x))(he:e=x∨H e=some (.own x))(k:∀b u,b≠e->s.heap.get? b=some u->h'.get? b=some u)(heo:∃u,h'.get? e=some u)
  (new:ObjOk X.prog X.w (upd H x o) h' x o):Inv X pins σ (upd H x o) {s with heap:=h',toks:=t' }:=I.un (Un.write mu he k heo) (I.hok.write mu he k heo new)
theorem Inv.pins_of{pins':List (Addr×Obj)}(I:Inv X pins σ H s)(h:∀p∈pins',s.heap.get? p.1=some p.2/\H p.1=none/\p.1≠X.env.locals/\p.1∉X.fs/\∀v,p.2.data ≠ .cell v):Inv X pins' σ H s :=
 ⟨I.ok,I.os,I.bare,I.base,I.loc,I.cell,I.free,I.freeC,fun p hp=>(List.mem_append.mp hp).elim (fun z=>I.pin p (List.mem_append_left _ z)) (h p),I.hok,I.len⟩
theorem nodup_ix{N:List Str}(hN:N.Nodup){i j:Nat}{x:Str}(a:N[i]?=some x)(b:N[j]?=some x):i=j:=by
 obtain⟨h1,e1⟩:=List.getElem?_eq_some_iff.mp a
 obtain⟨h2,e2⟩:=List.getElem?_eq_some_iff.mp b
 exact(List.getElem_inj hN).mp (e1.trans e2.symm)
theorem store_ok2{M:Model}{A:Around}{E:Value->Shared->Prop}{i:Nat}{x:Str}{v:V}{u:Value}{Q:Unit->Shared->Prop}(I:Inv X pins σ H s)(hN:X.N.Nodup)(hi:X.N[i]?=some x)(hx:Loc X.env.scope x)(r:RelV v u)
  (h:∀s',Inv X pins (σ.set i (some v)) H s'->(∃a,Heap.SameBut a s.heap s'.heap/\(a=X.env.locals∨X.env.cells.lookup x=some a))->Q () s') (hf:X.fn x=true∨X.env.scope.names.lookup x=some .local:=by first|exact .inl rfl|exact .inr rfl|assumption):wpAny M A (storeName X.env x u) Q E s:=by
 obtain⟨m,hn,hl⟩:=id I.loc
 have hcls:(X.env.scope.kind == .class||(X.env.scope.kind == .module&&X.env.locals != X.env.globals))=false:=by rw[I.ok.kind];rfl
 have hiσ:i < σ.length:=by rw[I.len];exact(List.getElem?_eq_some_iff.mp hi).1
 have cne:=I.cne
 have tracked:∀{a:Addr}{h':Heap},(∃o,s.heap.get? a=some o/\H a=none)->Heap.SameBut a s.heap h'->HOk X.prog X.w H h':=fun {a h'} ha hs b ob e=>by
  obtain⟨_,_,hfree⟩:=ha
  refine(I.hok b ob e).stay (fun c w' hc q=>(hs.2 c ?_).trans q) (fun _ q=>q) fun _ _ q=>q
  rintro rfl
  rcases hc with rfl|hc
  ·rw[hfree]at e;cases e
  ·rw[hfree]at hc;cases hc
 rcases hx with hk|hk
 ·refine wpAny_storeName_local hk hn (fun h' hn' hs=>?_) hcls
  obtain⟨oL,_,_,hoL,_⟩:=id hn
  refine h _ ⟨I.ok,I.os,I.bare,⟨fun b o e n hb hx=>?_,fun b o e n hb hx=>?_,I.base.free,fun b o e hx=>?_,I.base.tups,I.base.frzs,I.base.tbls⟩,⟨_,hn',fun j y v' e1 e2 e3=>?_⟩,fun y c e=>?_,I.free,I.freeC,fun p hp=>?_,tracked ⟨oL,hoL,I.free⟩ hs,by simpa using I.len⟩ ⟨_,hs,.inl rfl⟩
  ·exact(hs.2 b (Nat.ne_of_lt (Nat.lt_of_lt_of_le (Heap.lt_size e) I.ok.above))).trans (I.base.keep b o e n hb hx)
  ·obtain⟨sl,e1⟩:=I.base.slot b o e n hb hx
   exact⟨sl,(hs.2 b (Nat.ne_of_lt (Nat.lt_of_lt_of_le (Heap.lt_size e) I.ok.above))).trans e1⟩
  ·obtain⟨o',e1⟩:=I.base.there b o e hx
   exact⟨o',(hs.2 b (Nat.ne_of_lt (Nat.lt_of_lt_of_le (Heap.lt_size e) I.ok.above))).trans e1⟩
  ·by_cases hj:j=i
   ·subst hj
    rw[hi]at e1;cases e1
    rw[List.getElem?_set_self hiσ]at e2
    cases e2
    exact⟨u,r,.inl ⟨hk,by simp⟩⟩
   ·rw[List.getElem?_set_ne (Ne.symm hj)]at e2
    obtain⟨u',r',q⟩:=hl j y v' e1 e2 e3
    refine⟨u',r',?_⟩
    rcases q with ⟨k,e⟩|⟨k,c,e,z⟩
    ·refine .inl ⟨k,?_⟩
     have:y≠x:=fun e=>hj (nodup_ix hN e1 (e ▸ hi))
     simp[this,e]
    ·exact .inr ⟨k,c,e,z.sameBut hs (cne y c e)⟩
  ·obtain⟨w',z⟩:=I.cell y c e
   exact⟨w',z.sameBut hs (cne y c e)⟩
  ·obtain⟨e,n,ne,nf,d⟩:=I.pin p hp
   exact⟨(hs.2 p.1 ne).trans e,n,ne,nf,d⟩
 ·have hfn:X.fn x=true:=by
   rcases hf with z|z
   ·exact z
   ·rw[z]at hk;cases hk
  obtain⟨c,hc⟩:=I.ok.has x (.inl hk)
  obtain⟨w',z⟩:=I.cell x c hc
  refine wpAny_storeName_cell I.ok.kind hk hc z (fun h' hc' hs=>?_)
  obtain⟨oc,hoc,hocd⟩:=id z
  refine h {s with heap:=h' } ⟨I.ok,I.os,I.bare,⟨fun b o e n hb hx=>?_,fun b o e n hb hx=>?_,I.base.free,fun b o e hx=>?_,I.base.tups,I.base.frzs,I.base.tbls⟩,⟨m,hn.sameBut hs (Ne.symm (cne x c hc)),fun j y v' e1 e2 e3=>?_⟩,fun y c' e=>?_,I.free,I.freeC,fun p hp=>?_,tracked ⟨oc,hoc,I.freeC x c hc⟩ hs,by simpa using I.len⟩ ⟨c,hs,.inr hc⟩
  ·exact(hs.2 b (Nat.ne_of_lt (Nat.lt_of_lt_of_le (Heap.lt_size e) (I.ok.cab x c hfn hc)))).trans (I.base.keep b o e n hb hx)
  ·obtain⟨sl,e1⟩:=I.base.slot b o e n hb hx
   exact⟨sl,(hs.2 b (Nat.ne_of_lt (Nat.lt_of_lt_of_le (Heap.lt_size e) (I.ok.cab x c hfn hc)))).trans e1⟩
  ·obtain⟨o',e1⟩:=I.base.there b o e hx
   exact⟨o',(hs.2 b (Nat.ne_of_lt (Nat.lt_of_lt_of_le (Heap.lt_size e) (I.ok.cab x c hfn hc)))).trans e1⟩
  ·by_cases hj:j=i
   ·subst hj
    rw[hi]at e1;cases e1
    rw[List.getElem?_set_self hiσ]at e2
    cases e2
    exact⟨u,r,.inr ⟨.inl hk,c,hc,hc'⟩⟩
   ·rw[List.getElem?_set_ne (Ne.symm hj)]at e2
    obtain⟨u',r',q⟩:=hl j y v' e1 e2 e3
    refine⟨u',r',?_⟩
    rcases q with q|⟨k,c',e,z'⟩
    ·exact .inl q
    ·refine .inr ⟨k,c',e,z'.sameBut hs ?_⟩
     rintro rfl
     exact hj (nodup_ix hN e1 (I.ok.inj _ _ _ e hc ▸ hi))
  ·by_cases hcc:c'=c
   ·subst hcc;exact⟨_,hc'⟩
   ·obtain⟨w2,z2⟩:=I.cell y c' e
    exact⟨w2,z2.sameBut hs hcc⟩
  ·obtain⟨e,n,ne,nf,d⟩:=I.pin p hp
   refine⟨(hs.2 p.1 ?_).trans e,n,ne,nf,d⟩
   intro q
   rw[q,hoc]at e
   have q':oc=p.2:=Option.some.inj e
   exact d w' (by rw[← q'];exact hocd)
theorem store_ok{M:Model}{A:Around}{E:Value->Shared->Prop}{i:Nat}{x:Str}{v:V}{u:Value}{Q:Unit->Shared->Prop}(I:Inv X pins σ H s)(hN:X.N.Nodup)(hi:X.N[i]?=some x)(hx:Loc X.env.scope x)(r:RelV v u)
  (h:∀s',Inv X pins (σ.set i (some v)) H s'->Q () s') (hf:X.fn x=true∨X.env.scope.names.lookup x=some .local:=by first|exact .inl rfl|exact .inr rfl|assumption):wpAny M A (storeName X.env x u) Q E s :=
 store_ok2 I hN hi hx r (fun s' I' _=>h s' I') hf
theorem Inv.call'{s':Shared}{ch:List Addr}(I:Inv X pins σ H s)(ho:s'.os=s.os)(u:Un (frs X.stack) ch H H' s.heap s'.heap)(hok:HOk X.prog X.w H' s'.heap)(hg:AllBare s'.gens)
  (hch:∀b∈ch,(b∈X.ex∨X.s₀.heap.objs.size<=b)/\b≠X.env.locals/\(∀x c,X.env.cells.lookup x=some c->c≠b)/\∀p∈X.pn++pins,p.1≠b):Inv X pins σ H' s':=by
 obtain⟨h',g',d',t',o'⟩:=s'
 have e:o'=s.os:=ho
 subst e
 exact I.call (g':=g') (t':=t') (d':=d') u hok hg hch
end
abbrev XK:=Value->Option Addr->Hp->Prop
abbrev St:=List (Option V)
abbrev VK:=V->Hp->Prop
abbrev TE:=St->Hp->VK->Prop
abbrev TT:=St->Hp->(Bool->Hp->Prop)->Prop
abbrev TA:=St->Hp->(List V->Hp->Prop)->Prop
structure Ends where
 nx:St->Hp->Prop
 rt:VK
 bk:St->Hp->Prop:=fun _ _=>False
 ct:St->Hp->Prop:=fun _ _=>False
abbrev TS:=Ends->St->Hp->Prop
def EP(X:Cx)(pins:List (Addr×Obj))(σ:St)(Q:VK)(u:Value)(s':Shared):Prop:=∃v H',Inv X pins σ H' s'/\RelV v u/\Q v H'
def TP(X:Cx)(pins:List (Addr×Obj))(σ:St)(Q:Bool->Hp->Prop)(b:Bool)(s':Shared):Prop:=∃H',Inv X pins σ H' s'/\Q b H'
def AP(X:Cx)(pins:List (Addr×Obj))(σ:St)(Q:List V->Hp->Prop)(us:List Value)(s':Shared):Prop:=∃vs H',Inv X pins σ H' s'/\Vals vs us/\Q vs H'
def SP(X:Cx)(pins:List (Addr×Obj))(D:Ends)(f:Flow)(s':Shared):Prop :=
 match f with
 | .next=>∃σ' H',Inv X pins σ' H' s'/\D.nx σ' H'
 | .brk=>∃σ' H',Inv X pins σ' H' s'/\D.bk σ' H'
 | .cont=>∃σ' H',Inv X pins σ' H' s'/\D.ct σ' H'
 | .ret u=>∃v σ' H',Inv X pins σ' H' s'/\RelV v u/\D.rt v H'
def PE(X:Cx)(e:Expr)(t:TE):Prop :=
 ∀(pins:List (Addr×Obj))(s:Shared)(σ:St)(H:Hp)(Q:VK),Inv X pins σ H s->t σ H Q->wpAny (model X.prog X.w) X.A (eval e X.env) (EP X pins σ Q) X.xe s
def PT(X:Cx)(e:Expr)(t:TT):Prop :=
 ∀(pins:List (Addr×Obj))(s:Shared)(σ:St)(H:Hp)(Q:Bool->Hp->Prop),Inv X pins σ H s->t σ H Q->wpAny (model X.prog X.w) X.A (isTrue e X.env (eval e X.env)) (TP X pins σ Q) X.xe s
def PW(X:Cx)(e:Expr)(t:TT):Prop :=
 ∀(whole:Sem Value)(pins:List (Addr×Obj))(s:Shared)(σ:St)(H:Hp)(Q:Bool->Hp->Prop),Inv X pins σ H s->t σ H Q->wpAny (model X.prog X.w) X.A (isTrue e X.env whole) (TP X pins σ Q) X.xe s
theorem PW.pt{X:Cx}{e:Expr}{t:TT}(h:PW X e t):PT X e t:=h _
def PA(X:Cx)(es:List Expr)(t:TA):Prop :=
 ∀(pos:Pos)(pins:List (Addr×Obj))(s:Shared)(σ:St)(H:Hp)(Q:List V->Hp->Prop),Inv X pins σ H s->t σ H Q->wpAny (model X.prog X.w) X.A (spliced (backTo pos (starEach es X.env))) (AP X pins σ Q) X.xe s
def PS(X:Cx)(st:Stmt)(t:TS):Prop :=
 ∀(pins:List (Addr×Obj))(s:Shared)(σ:St)(H:Hp)(D:Ends),Inv X pins σ H s->t D σ H->wpAny (model X.prog X.w) X.A (exec st X.env) (SP X pins D) X.xe s
def PSs(X:Cx)(st:List Stmt)(t:TS):Prop :=
 ∀(pins:List (Addr×Obj))(s:Shared)(σ:St)(H:Hp)(D:Ends),Inv X pins σ H s->t D σ H->wpAny (model X.prog X.w) X.A (execs st X.env) (SP X pins D) X.xe s
theorem thn{α:Type}{t:Sem α}{Q Q':α->Shared->Prop}{M:Model}{A:Around}{E:Value->Shared->Prop}{s:Shared}(h:wpAny M A t Q E s)(hQ:∀a s,Q a s->Q' a s):wpAny M A t Q' E s:=wpAny_mono h hQ fun _ _ x=>x
end L2
namespace L2
open PySem PySem.Spec PyProof.Rows
section
variable {X:Cx}
def tVar(i:Nat):TE:=fun σ H Q=>∃v,σ[i]?=some (some v)/\Q v H
def tC(v:V):TE:=fun _ H Q=>Q v H
theorem pe_var{i:Nat}{x:Str}{pos:Pos}(hN:X.N[i]?=some x)(hv:Vis X.env.scope x) (hd:(x==("__debug__" : Str))=false:=by decide) (hcd:(x==("__classdict__" : Str))=false:=by decide):PE X (.Name x pos) (tVar i):=by
 intro pins s σ H Q I h
 obtain⟨v,e,h⟩:=h
 obtain⟨m,hn,hl⟩:=I.loc
 obtain⟨u,r,l⟩:=hl i x v hN e hv
 have fin:EP X pins σ Q u s:=⟨v,H,I,r,h⟩
 rcases l with ⟨hk,hm⟩|⟨hk,c,hc,hcell⟩
 ·exact wpAny_Name (wpAny_loadName_local I.ok.kind hk hn hm fin) hd
 ·rcases hk with hk|hk
  ·exact wpAny_Name (wpAny_loadName_cell I.ok.kind hk hc hcell fin) hd
  ·exact wpAny_Name (wpAny_loadName_free I.ok.kind hk hc hcell fin hcd) hd
theorem pe_int{i j pos}:PE X (.Constant (.int i) j pos) (tC (.int i)):=fun _ _ _ H _ I h=>wpAny_Constant_int ⟨.int i,H,I.tok _,⟨_,rfl⟩,h⟩
theorem pe_bl{b j pos}:PE X (.Constant (.bool b) j pos) (tC (.bl b)):=fun _ _ _ H _ I h=>Constant_bool ⟨.bl b,H,I,rfl,h⟩
theorem pe_non{j pos}:PE X (.Constant .none j pos) (tC .non):=fun _ _ _ H _ I h=>Constant_none ⟨.non,H,I,rfl,h⟩
theorem pe_str{x j pos}:PE X (.Constant (.str x) j pos) (tC (.str x)):=fun _ _ _ H _ I h=>Calls.Constant_str ⟨.str x,H,I.tok _,⟨_,rfl⟩,h⟩
def Gl(X:Cx)(x:Str):Prop:=X.env.kindOf x=some .globalImplicit
theorem ld_glob{E:Value->Shared->Prop}{pins:List (Addr×Obj)}{s:Shared}{σ:St}{H:Hp}{x:Str}{u:Value}{pos:Pos}{Q:Value->Shared->Prop}(I:Inv X pins σ H s)(hg:Gl X x)(hm:X.mg x=some u)(h:Q u s)
  (hd:(x==("__debug__" : Str))=false:=by decide):wpAny (model X.prog X.w) X.A (eval (.Name x pos) X.env) Q E s :=
 Calls.Name_function_global I.ok.kind hg (Calls.loadGlobal_global (by rw[I.ok.glob];exact I.mod.glob.keeps I.bk) hm h) hd
theorem ld_blt{E:Value->Shared->Prop}{pins:List (Addr×Obj)}{s:Shared}{σ:St}{H:Hp}{x:Str}{u:Value}{pos:Pos}{Q:Value->Shared->Prop}(I:Inv X pins σ H s)(hg:Gl X x)(hm:X.mg x=none)(hv:bootBuiltins x=some u)(h:Q u s)
  (hn:x ≠ "__name__" := by decide) (hd:(x==("__debug__" : Str))=false:=by decide):wpAny (model X.prog X.w) X.A (eval (.Name x pos) X.env) Q E s:=by
 obtain⟨mb,h1,h2⟩:=I.mod.blt
 exact Calls.Name_function_global I.ok.kind hg (Calls.loadGlobal_builtin (by rw[I.ok.glob];exact I.mod.glob.keeps I.bk) hm (by rw[I.ok.blt];exact h1.keeps I.bk) ((h2 x hn).trans hv) h) hd
theorem pe_glob{x:Str}{v:V}{u:Value}{pos:Pos}(hg:Gl X x)(hm:X.mg x=some u)(r:RelV v u) (hd:(x==("__debug__" : Str))=false:=by decide):PE X (.Name x pos) (tC v) :=
 fun _ _ _ H _ I h=>ld_glob I hg hm ⟨v,H,I,r,h⟩ hd
theorem pe_bltn{x:Str}{v:V}{u:Value}{pos:Pos}(hg:Gl X x)(hm:X.mg x=none)(hv:bootBuiltins x=some u)(r:RelV v u) (hn:x ≠ "__name__" := by decide) (hd:(x==("__debug__" : Str))=false:=by decide):PE X (.Name x pos) (tC v) :=
 fun _ _ _ H _ I h=>ld_blt I hg hm hv ⟨v,H,I,r,h⟩ hn hd
variable {a b:Expr} {ta tb:TE} {pos:Pos}
def tB(t:TE):TT:=fun σ H Q=>t σ H fun x H1=>∃c,x=.bl c/\Q c H1
theorem pt_val{e:Expr}{t:TE}(h:PE X e t)(he:∀whole,isTrue e X.env whole=(do let v ← whole;standAt e.pos;holding [v] (truthy v)):=by intro _;rfl):PT X e (tB t):=by
 intro pins s σ H Q I hw
 refine isTrue_plain (thn (h pins s σ H _ I hw) fun v s1 ⟨x,H1,I1,r1,q1⟩=>?_) (he _)
 obtain⟨d,rfl,q⟩:=q1
 cases r1
 exact wpAny_truthy_bool ⟨H1,I1,q⟩
variable {tA tB':TT} {rest:List Expr}
def tAnd(t u:TT):TT:=fun σ H Q=>t σ H fun c H1=>if c=true then u σ H1 Q else Q false H1
def tOr(t u:TT):TT:=fun σ H Q=>t σ H fun c H1=>if c=true then Q true H1 else u σ H1 Q
def tNot(t:TT):TT:=fun σ H Q=>t σ H fun c H1=>Q (!c) H1
theorem pw_and1(ha:PT X a tA):PW X (.BoolOp .And [a] pos) tA:=by
 intro wh pins s σ H Q I h
 refine isTrue_and (thn (ha pins s σ H Q I h) fun c s1 e=>?_)
 cases c with
 | true=>exact isTrue_and_nil e
 | false=>exact e
theorem pw_or1(ha:PT X a tA):PW X (.BoolOp .Or [a] pos) tA:=by
 intro wh pins s σ H Q I h
 refine isTrue_or (thn (ha pins s σ H Q I h) fun c s1 e=>?_)
 cases c with
 | false=>exact isTrue_or_nil e
 | true=>exact e
theorem pw_and(ha:PT X a tA)(hb:PW X (.BoolOp .And (b::rest) pos) tB'):PW X (.BoolOp .And (a::b::rest) pos) (tAnd tA tB'):=by
 intro wh pins s σ H Q I h
 refine isTrue_and (thn (ha pins s σ H _ I h) fun c s1 ⟨H1,I1,q1⟩=>?_)
 cases c with
 | true=>exact hb wh pins s1 σ H1 Q I1 q1
 | false=>exact⟨H1,I1,q1⟩
theorem pw_or(ha:PT X a tA)(hb:PW X (.BoolOp .Or (b::rest) pos) tB'):PW X (.BoolOp .Or (a::b::rest) pos) (tOr tA tB'):=by
 intro wh pins s σ H Q I h
 refine isTrue_or (thn (ha pins s σ H _ I h) fun c s1 ⟨H1,I1,q1⟩=>?_)
 cases c with
 | true=>exact⟨H1,I1,q1⟩
 | false=>exact hb wh pins s1 σ H1 Q I1 q1
theorem pt_not(ha:PT X a tA):PT X (.UnaryOp .Not a pos) (tNot tA):=by
 intro pins s σ H Q I h
 exact isTrue_not (ha pins s σ H (fun c H1=>Q (!c) H1) I h)
def tAndV(ta tb:TE):TE:=fun σ H Q=>ta σ H fun x H1=>∃c,x=.bl c/\if c=true then tb σ H1 Q else Q (.bl false) H1
def tNotV(ta:TE):TE:=fun σ H Q=>ta σ H fun x H1=>∃c,x=.bl c/\Q (.bl (!c)) H1
theorem pe_one{op}{t:TE}(h:PE X a t):PE X (.BoolOp op [a] pos) t:=fun pins s σ H Q I hw=>BoolOp_one (h pins s σ H Q I hw)
theorem pe_and(ha:PE X a ta)(hb:PE X (.BoolOp .And (b::rest) pos) tb):PE X (.BoolOp .And (a::b::rest) pos) (tAndV ta tb):=by
 intro pins s σ H Q I h
 refine BoolOp_and (thn (ha pins s σ H _ I h) fun v s1 ⟨x,H1,I1,r1,q1⟩=>?_)
 obtain⟨c,rfl,q1⟩:=q1
 cases r1
 refine wpAny_truthy_bool ?_
 cases c with
 | true=>exact hb pins s1 σ H1 Q I1 q1
 | false=>exact⟨.bl false,H1,I1,rfl,q1⟩
theorem pe_not(ha:PE X a ta):PE X (.UnaryOp .Not a pos) (tNotV ta):=by
 intro pins s σ H Q I h
 refine UnaryOp_ (thn (ha pins s σ H _ I h) fun v s1 ⟨x,H1,I1,r1,q1⟩=>?_)
 obtain⟨c,rfl,q1⟩:=q1
 cases r1
 exact not_of (wpAny_truthy_bool ⟨.bl (!c),H1,I1,rfl,q1⟩)
end
end L2
namespace L2
open PySem PySem.Spec PyProof.Rows
def SqL(K:PySem.W.Frag)(H:Hp)(a:Addr)(xs:List V):Prop :=
 Rd H a (.lst xs) ∨
  ∃(o:Obj) (its:Array Value) (n:Nat),K.lookup a=some o/\o.cls=.type "list" /\ o.dict=none/\o.data=.seq its n/\its.size<=sizeLine/\Vals xs its.toList
def SqT(K:PySem.W.Frag)(H:Hp)(a:Addr)(xs:List V):Prop :=
 Rd H a (.tup xs) ∨
  ∃(o:Obj) (its:Array Value) (n:Nat),K.lookup a=some o/\o.cls=.type "tuple" /\ o.data=.seq its n/\its.size<=sizeLine/\Vals xs its.toList
def absV:Value->Option V
 | .none=>some .non
 | .bool b=>some (.bl b)
 | .int i _=>some (.int i)
 | .str x _=>some (.str x)
 | .bytes b _=>some (.byt b)
 | .float b _=>some (.flt b)
 | .ref a=>some (.ref a)
 | .type n=>some (.ty n)
 | _=>none
theorem RelV.abs{x:V}{u:Value}(r:RelV x u):absV u=some x:=by
 cases x with
 | non=>cases r;rfl
 | bl _=>cases r;rfl
 | int _=>obtain⟨t,rfl⟩:=r;rfl
 | str _=>obtain⟨t,rfl⟩:=r;rfl
 | byt _=>obtain⟨t,rfl⟩:=r;rfl
 | flt _=>obtain⟨t,rfl⟩:=r;rfl
 | ref _=>cases r;rfl
 | ty _=>cases r;rfl
theorem RelV.inj{x y:V}{u:Value}(r:RelV x u)(q:RelV y u):x=y:=Option.some.inj (r.abs.symm.trans q.abs)
theorem Vals.inj:∀{xs ys:List V}{us:List Value},Vals xs us->Vals ys us->xs=ys
 | _,_,_,.nil,.nil=>rfl
 | _,_,_,.cons r t,.cons r' t'=>by rw[r.inj r',Vals.inj t t']
section
variable {X:Cx} {pins:List (Addr×Obj)} {σ:St} {H:Hp} {s:Shared} {a:Addr} {xs ys:List V}
theorem SqL.of{K:PySem.W.Frag}(h:H a=some (.lst xs)):SqL K H a xs:=.inl (.inl h)
theorem SqT.of{K:PySem.W.Frag}(h:H a=some (.tup xs)):SqT K H a xs:=.inl (.inl h)
theorem Inv.list(I:Inv X pins σ H s)(h:SqL X.K H a xs):∃its:List Value,Vals xs its/\PlainL s.heap a its.toArray/\xs.length<=sizeLine:=by
 rcases h with h|⟨o,its,n,hk,hc,hd,hs,hz,r⟩
 ·obtain⟨z,its,n,r,e⟩:=h.ok I.hok
  exact⟨its,r,⟨_,n,e,rfl,rfl,rfl⟩,z⟩
 ·refine⟨its.toList,r,⟨o,n,I.kIn a o hk,hc,hd,by simpa using hs⟩,?_⟩
  have e:=r.length
  simp only[Array.length_toList]at e
  omega
theorem Inv.tuple(I:Inv X pins σ H s)(h:SqT X.K H a xs):∃its:List Value,Vals xs its/\IsTup s.heap a its.toArray/\xs.length<=sizeLine:=by
 rcases h with h|⟨o,its,n,hk,hc,hs,hz,r⟩
 ·obtain⟨z,its,r,p⟩:=h.ok I.hok
  exact⟨its,r,p,z⟩
 ·refine⟨its.toList,r,⟨o,I.kIn a o hk,hc,n,by simpa using hs⟩,?_⟩
  have e:=r.length
  simp only[Array.length_toList]at e
  omega
theorem Inv.list_inj(I:Inv X pins σ H s)(h:SqL X.K H a xs)(h':SqL X.K H a ys):xs=ys:=by
 obtain⟨its,r,⟨o,n,e,_,_,d⟩,_⟩:=I.list h
 obtain⟨its',r',⟨o',n',e',_,_,d'⟩,_⟩:=I.list h'
 rw[e]at e';cases e'
 rw[d]at d'
 injection d' with d1 _
 have:its=its':=by simpa using congrArg Array.toList d1
 subst this
 exact r.inj r'
theorem Inv.tuple_inj(I:Inv X pins σ H s)(h:SqT X.K H a xs)(h':SqT X.K H a ys):xs=ys:=by
 obtain⟨its,r,⟨o,e,_,n,d⟩,_⟩:=I.tuple h
 obtain⟨its',r',⟨o',e',_,n',d'⟩,_⟩:=I.tuple h'
 rw[e]at e';cases e'
 rw[d]at d'
 injection d' with d1 _
 have:its=its':=by simpa using congrArg Array.toList d1
 subst this
 exact r.inj r'
end
abbrev Cx.wish(X:Cx)(E:Value->Shared->Prop):Cx:={X with xe:=E}
abbrev Cx.nox(X:Cx):Cx:=X.wish fun _ _=>False
theorem Cx.Ok.wish{X:Cx}(ok:X.Ok)(E:Value->Shared->Prop):(X.wish E).Ok :=
 ⟨ok.mod,ok.kind,ok.glob,ok.blt,ok.above,ok.inj,ok.has,ok.cab,ok.hd,ok.frames,ok.stk,ok.exf,ok.bs,ok.bsz,ok.noex,ok.exfs,ok.funs,ok.frf⟩
theorem Cx.Ok.unwish{X:Cx}{E:Value->Shared->Prop}(ok:(X.wish E).Ok):X.Ok :=
 ⟨ok.mod,ok.kind,ok.glob,ok.blt,ok.above,ok.inj,ok.has,ok.cab,ok.hd,ok.frames,ok.stk,ok.exf,ok.bs,ok.bsz,ok.noex,ok.exfs,ok.funs,ok.frf⟩
section
variable {X:Cx} {pins:List (Addr×Obj)} {σ:St} {H:Hp} {s:Shared} {E:Value->Shared->Prop}
theorem Inv.wish(I:Inv X pins σ H s)(E:Value->Shared->Prop):Inv (X.wish E) pins σ H s:=⟨I.ok.wish E,I.os,I.bare,I.base,I.loc,I.cell,I.free,I.freeC,I.pin,I.hok,I.len⟩
theorem Inv.unwish(I:Inv (X.wish E) pins σ H s):Inv X pins σ H s:=⟨I.ok.unwish,I.os,I.bare,I.base,I.loc,I.cell,I.free,I.freeC,I.pin,I.hok,I.len⟩
theorem SP.unwish{D:Ends}{f:Flow}{s':Shared}(h:SP (X.wish E) pins D f s'):SP X pins D f s':=by
 cases f with
 | next=>obtain⟨σ',H',I,q⟩:=h;exact⟨σ',H',I.unwish,q⟩
 | brk=>obtain⟨σ',H',I,q⟩:=h;exact⟨σ',H',I.unwish,q⟩
 | cont=>obtain⟨σ',H',I,q⟩:=h;exact⟨σ',H',I.unwish,q⟩
 | ret u=>obtain⟨v,σ',H',I,r,q⟩:=h;exact⟨v,σ',H',I.unwish,r,q⟩
theorem PE.nox{e:Expr}{t:TE}(h:PE X.nox e t):PE X e t:=fun pins s σ H Q I hw =>
 wpAny_mono (h pins s σ H Q (I.wish _) hw) (fun _ _ ⟨v,H',I',r,q⟩=>⟨v,H',I'.unwish,r,q⟩) fun _ _ z=>False.elim z
theorem PT.nox{e:Expr}{t:TT}(h:PT X.nox e t):PT X e t:=fun pins s σ H Q I hw =>
 wpAny_mono (h pins s σ H Q (I.wish _) hw) (fun _ _ ⟨H',I',q⟩=>⟨H',I'.unwish,q⟩) fun _ _ z=>False.elim z
theorem PSs.nox{st:List Stmt}{t:TS}(h:PSs X.nox st t):PSs X st t:=fun pins s σ H D I hw =>
 wpAny_mono (h pins s σ H D (I.wish _) hw) (fun _ _ q=>q.unwish) fun _ _ z=>False.elim z
end
section
variable {X:Cx} {st:Stmt} {rest:List Stmt} {t u:TS} {e:Expr} {te:TE} {pos:Pos}
def tNext:TS:=fun D σ H=>D.nx σ H
def tSeq(t u:TS):TS:=fun D σ H=>t {D with nx:=u D} σ H
theorem pss_nil:PSs X [] tNext:=fun _ _ σ H _ I h=>wpAny_execs_nil ⟨σ,H,I,h⟩
theorem pss_cons(h1:PS X st t)(h2:PSs X rest u):PSs X (st::rest) (tSeq t u):=by
 intro pins s σ H D I h
 refine wpAny_execs_cons (thn (h1 pins s σ H {D with nx:=u D} I h) fun f s1 q=>?_)
 cases f with
 | next =>
  obtain⟨σ',H',I',q⟩:=q
  exact h2 pins s1 σ' H' D I' q
 | ret v=>exact q
 | brk=>exact q
 | cont=>exact q
theorem pss_one(h1:PS X st t):PSs X [st] t:=by
 intro pins s σ H D I h
 refine wpAny_execs_cons (thn (h1 pins s σ H D I h) fun f s1 q=>?_)
 cases f with
 | next=>exact wpAny_execs_nil q
 | ret v=>exact q
 | brk=>exact q
 | cont=>exact q
theorem Inv.quiet{pins:List (Addr×Obj)}{σ:St}{H:Hp}{s:Shared}(I:Inv X pins σ H s):interactive X.env=false:=by simp[interactive,I.ok.kind]
def tDrop(te:TE):TS:=fun D σ H=>te σ H fun _ H1=>D.nx σ H1
theorem ps_expr(he:PE X e te)(hs:swapsWith e none pos.line X.env=pure false:=by rfl):PS X (.Expr e pos) (tDrop te):=by
 intro pins s σ H D I h
 exact wpAny_Expr_any (thn (he pins s σ H _ I h) fun v s1 ⟨x,H1,I1,r1,q1⟩=>⟨σ,H1,I1,q1⟩) I.quiet hs
def tRet(te:TE):TS:=fun D σ H=>te σ H D.rt
theorem ps_ret(he:PE X e te):PS X (.Return (some e) pos) (tRet te):=by
 intro pins s σ H D I h
 exact wpAny_Return_some (thn (he pins s σ H _ I h) fun v s1 ⟨x,H1,I1,r1,q1⟩=>⟨x,σ,H1,I1,r1,q1⟩)
def tIfS(c:TT)(t u:TS):TS:=fun D σ H=>c σ H fun b H1=>if b=true then t D σ H1 else u D σ H1
theorem ps_if{c:Expr}{a b:List Stmt}{tc:TT}(hc:PT X c tc)(ha:PSs X a t)(hb:PSs X b u):PS X (.If c a b pos) (tIfS tc t u):=by
 intro pins s σ H D I h
 refine wpAny_If (thn (hc pins s σ H _ I h) fun d s1 ⟨H1,I1,q1⟩=>?_)
 cases d with
 | true=>exact ha pins s1 σ H1 D I1 q1
 | false=>exact hb pins s1 σ H1 D I1 q1
def tNever:TS:=fun _ _ _=>False
theorem ps_never:PS X st tNever:=fun _ _ _ _ _ _ h=>h.elim
end
abbrev TG:=V->St->Hp->(St->Hp->Prop)->Prop
abbrev TGs:=List V->St->Hp->(St->Hp->Prop)->Prop
def PG(X:Cx)(target:Expr)(t:TG):Prop :=
 ∀(pins:List (Addr×Obj))(s:Shared)(σ:St)(H:Hp)(v:V)(u:Value)(Q:St->Hp->Prop),Inv X pins σ H s->RelV v u->t v σ H Q →
  wpAny (model X.prog X.w) X.A (assign target X.env u) (fun _ s'=>∃σ' H',Inv X pins σ' H' s'/\Q σ' H') X.xe s
def PGs(X:Cx)(ts:List Expr)(t:TGs):Prop :=
 ∀(pins:List (Addr×Obj))(s:Shared)(σ:St)(H:Hp)(vs:List V)(us:List Value)(Q:St->Hp->Prop),Inv X pins σ H s->Vals vs us->t vs σ H Q →
  wpAny (model X.prog X.w) X.A (assignInOrder ((assignEach ts X.env).map (·.2)) us) (fun _ s'=>∃σ' H',Inv X pins σ' H' s'/\Q σ' H') X.xe s
section
variable {X:Cx} {pos:Pos}
def gName(i:Nat):TG:=fun v σ H Q=>Q (σ.set i (some v)) H
theorem pg_name{i:Nat}{x:Str}(hN:X.N.Nodup)(hi:X.N[i]?=some x)(hx:Loc X.env.scope x)(hf:X.fn x=true∨X.env.scope.names.lookup x=some .local:=by first|exact .inl rfl|exact .inr rfl|assumption):PG X (.Name x pos) (gName i):=by
 intro pins s σ H v u Q I r h
 exact wpAny_assign_Name (store_ok I hN hi hx r (fun s' I'=>⟨_,H,I',h⟩) hf)
def gNil:TGs:=fun vs σ H Q=>vs=[]/\Q σ H
def gCons(t:TG)(u:TGs):TGs:=fun vs σ H Q=>∃v r,vs=v::r/\t v σ H fun σ' H'=>u r σ' H' Q
theorem pgs_nil:PGs X [] gNil:=by
 intro pins s σ H vs us Q I r h
 obtain⟨e,h⟩:=h
 subst e
 cases r
 exact assignInOrder_nil ⟨σ,H,I,h⟩
theorem pgs_cons{e:Expr}{es:List Expr}{t:TG}{u:TGs}(h1:PG X e t)(h2:PGs X es u)
  (hs:(assignEach (e::es) X.env).map (·.2)=assign e X.env::(assignEach es X.env).map (·.2):=by rfl):PGs X (e::es) (gCons t u):=by
 intro pins s σ H vs us Q I r h
 obtain⟨v,vr,e1,h⟩:=h
 subst e1
 cases r with
 | cons r rr =>
  rw[hs]
  refine assignInOrder_cons (thn (h1 pins s σ H _ _ _ I r h) fun _ s1 ⟨σ1,H1,I1,q1⟩=>?_)
  exact h2 pins s1 σ1 H1 _ _ Q I1 rr q1
def tAsg(te:TE)(g:TG):TS:=fun D σ H=>te σ H fun x H1=>g x σ H1 D.nx
theorem ps_asg{tg e:Expr}{te:TE}{g:TG}(he:PE X e te)(hg:PG X tg g)(hs:swapsWithSole [tg] e pos.line X.env=pure false:=by rfl)(hw:swappedStores [tg] e X.env=pure none:=by rfl)
  (h1:(assignEach [tg] X.env).map (·.2)=[assign tg X.env]:=by rfl):PS X (.Assign [tg] e pos) (tAsg te g):=by
 intro pins s σ H D I h
 refine wpAny_Assign_stores (thn (he pins s σ H _ I h) fun v s1 ⟨x,H1,I1,r1,q1⟩=>?_) hs hw
 rw[h1]
 exact thn (hg pins s1 σ H1 x v _ I1 r1 q1) fun _ s2 q=>q
theorem ps_set{i:Nat}{x:Str}{e:Expr}{te:TE}{pos':Pos}(hN:X.N.Nodup)(hi:X.N[i]?=some x)(hx:Loc X.env.scope x)(he:PE X e te)(hs:swapsWith e (some (.Name x pos')) pos.line X.env=pure false:=by rfl)(hf:X.fn x=true∨X.env.scope.names.lookup x=some .local:=by first|exact .inl rfl|exact .inr rfl|assumption) :
  PS X (.Assign [.Name x pos'] e pos) (tAsg te (gName i)):=by
 intro pins s σ H D I h
 refine wpAny_Assign_Name (thn (he pins s σ H _ I h) fun v s1 ⟨y,H1,I1,r1,q1⟩=>?_) hs
 exact store_ok I1 hN hi hx r1 (fun s2 I2=>⟨_,H1,I2,q1⟩) hf
def tPar(i j:Nat)(ta:TA):TS:=fun D σ H=>ta σ H fun vs H1=>∃v w,vs=[v,w]/\D.nx ((σ.set i (some v)).set j (some w)) H1
theorem ps_par{i j:Nat}{x y:Str}{a b:Expr}{ta:TA}{px py pt:Pos}{kt k2 pt2}(hc:X.calm=true)(hN:X.N.Nodup)(hi:X.N[i]?=some x)(hj:X.N[j]?=some y)(hij:i≠j)
  (hx:X.env.scope.names.lookup x=some .local) (hy:X.env.scope.names.lookup y=some .local) (ha:PA X [a,b] ta)
  (hw:swappedStores [.Tuple [.Name x px,.Name y py] kt pt] (.Tuple [a,b] k2 pt2) X.env=pure (some [x,y]))
  (hs:swapsWithSole [.Tuple [.Name x px,.Name y py] kt pt] (.Tuple [a,b] k2 pt2) pos.line X.env=pure false:=by rfl) :
  PS X (.Assign [.Tuple [.Name x px,.Name y py] kt pt] (.Tuple [a,b] k2 pt2) pos) (tPar i j ta):=by
 intro pins s σ H D I h
 rw[exec_Assign_arm]
 refine wpAny_bind (wpAny_standAt ?_)
 rw[hs]
 refine wpAny_bind (wpAny_pure ?_)
 rw[if_neg (by decide)]
 refine wpAny_bind (Tuple_ (thn (ha _ pins s σ H _ I h) fun us s1 ⟨vs,H1,I1,r1,q1⟩=>?_))
 obtain⟨v,w,e1,q1⟩:=q1
 subst e1
 obtain⟨u1,u2,rfl,rv,rw'⟩:∃u1 u2,us=[u1,u2]/\RelV v u1/\RelV w u2:=by
  cases r1 with
  | cons p q =>
   cases q with
   | cons p' q' =>
    cases q'
    exact⟨_,_,rfl,p,p'⟩
 refine wpAny_newObj_type ?_ (by show 2<=sizeLine;decide)
 have I2:Inv X pins σ H1 {s1 with heap:=s1.heap.push {cls:=.type "tuple", data:=.seq [u1,u2].toArray} }:=I1.kept (t':=s1.toks) fun b o e=>Heap.get?_push_of_some _ e
 rw[hw]
 refine wpAny_bind (wpAny_pure ?_)
 show wpAny (model X.prog X.w) X.A (do rule "assign.swapped-stores"; let items ← unpackItems (.ref s1.heap.objs.size) 2 none;assignInOrder [fun v=>bindName X.env y v,fun v=>bindName X.env x v] items.reverse;pure Flow.next) _ _ _
 refine wpAny_bind (wpAny_rule (wpAny_bind (unpackItems_tuple (items:=#[u1,u2]) (I.ok.hd hc) (IsTup.new s1.heap _) fun h' hx'=>?_)))
 have I3:=I2.kept (h':=h') (t':=s1.toks) fun b o e=>hx' b o (Nat.ne_of_lt (Heap.lt_size e)) e
 show wpAny _ _ (assignInOrder [fun v=>bindName X.env y v,fun v=>bindName X.env x v] [u2,u1] >>= fun _=>pure Flow.next) _ _ _
 refine wpAny_bind (assignInOrder_cons (wpAny_bindName (store_ok I3 hN hj (.inl hy) rw' (fun s2 I4=>?_) (.inr hy))))
 refine assignInOrder_cons (wpAny_bindName (store_ok I4 hN hi (.inl hx) rv (fun s3 I5=>assignInOrder_nil (wpAny_pure ?_)) (.inr hx)))
 rw[List.set_comm _ _ (Ne.symm hij)]at I5
 exact⟨_,H1,I5,q1⟩
end
section
variable {X:Cx} {pos:Pos}
def tWhile(c:TT)(tb:TS):TS:=fun D σ H=>∃W:Nat->St->Hp->Prop,(∃m,W m σ H)/\∀m σ H,W m σ H →
 c σ H fun b H1=>if b=true then ∃N:St->Hp->Prop,(∀σ' H',N σ' H'->∃m',m' < m/\W m' σ' H')/\tb {D with nx:=N,ct:=N,bk:=D.nx} σ H1 else D.nx σ H1
theorem ps_while{c:Expr}{body:List Stmt}{tc:TT}{tb:TS}(hp:PassesOwn (model X.prog X.w) X.A X.env X.xe)(hc:PT X c tc)(hb:PSs X body tb):PS X (.While c body [] pos) (tWhile tc tb):=by
 intro pins s σ H D I h
 obtain⟨W,⟨m0,w0⟩,turn⟩:=h
 refine wpAny_While (codeAny_whileLoop (fun n s'=>∃σ' H',Inv X pins σ' H' s'/\W n σ' H') ?_ m0 ⟨σ,H,I,w0⟩)
 rintro n s1 ⟨σ1,H1,I1,w1⟩
 refine wpAny_passesOwn hp (thn (hc pins s1 σ1 H1 _ I1 (turn n σ1 H1 w1)) fun b s2 ⟨H2,I2,q2⟩=>?_)
 cases b with
 | true =>
  obtain⟨N,hN,q2⟩:=q2
  rw[if_pos rfl]
  refine wpAny_passesOwn hp (thn (hb pins s2 σ1 H2 _ I2 q2) fun f s3 q3=>?_)
  cases f with
  | next =>
   obtain⟨σ3,H3,I3,n3⟩:=q3
   obtain⟨m',hm,w3⟩:=hN σ3 H3 n3
   exact⟨m',hm,σ3,H3,I3,w3⟩
  | cont =>
   obtain⟨σ3,H3,I3,n3⟩:=q3
   obtain⟨m',hm,w3⟩:=hN σ3 H3 n3
   exact⟨m',hm,σ3,H3,I3,w3⟩
  | brk=>exact q3
  | ret v=>exact q3
 | false =>
  rw[if_neg Bool.false_ne_true]
  exact wpAny_execs_nil ⟨σ1,H2,I2,q2⟩
end
structure It where
 go:Nat->Hp->Prop
 yld:Nat->Hp->V->Hp->Prop
 stop:Nat->Hp->Prop
def FpOk(X:Cx)(pins:List (Addr×Obj))(H:Hp)(b:Addr):Prop :=
 H b=none/\b≠X.env.locals/\b∉X.fs/\(b∈X.ex∨X.s₀.heap.objs.size<=b)/\(∀x c,X.env.cells.lookup x=some c->c≠b)/\∀p∈X.pn++pins,p.1≠b
theorem Inv.fpOk{X:Cx}{pins:List (Addr×Obj)}{σ:St}{H H':Hp}{s:Shared}{b:Addr}(I:Inv X pins σ H s)(hb:s.heap.objs.size<=b)(hn:H' b=none):FpOk X pins H' b:=by
 refine⟨hn,Nat.ne_of_gt (Nat.lt_of_lt_of_le I.lt hb),I.nofs hb,.inr (Nat.le_trans I.sz hb),fun x c e z=>?_,fun p hp z=>?_⟩
 ·obtain⟨v,q⟩:=I.cell x c e
  exact absurd (Nat.lt_of_lt_of_le q.lt (by rw[z];exact hb)) (Nat.lt_irrefl _)
 ·exact absurd (Nat.lt_of_lt_of_le (Heap.lt_size (I.pin p hp).1) (by rw[z];exact hb)) (Nat.lt_irrefl _)
structure Turn(P:Program)(w:World)(K:PySem.W.Frag)(tg:Expr)(J:It)(fp:List Addr)(it:Addr)(tn:Nat->Heap->Prop):Prop where
 mem:it∈fp
 obj:∀i h,tn i h->∀b∈fp,∃o,h.get? b=some o/\∀v,o.data ≠ .cell v
 keep:∀i h h',tn i h->(∀b∈fp,∀o,h.get? b=some o->h'.get? b=some o)->tn i h'
 item:∀(X:Cx),X.prog=P->X.w=w->X.K=K->X.calm=true->∀(i:Nat)(pins:List (Addr×Obj))(s:Shared)(σ:St)(H:Hp)(E:Value->Shared->Prop),Inv X pins σ H s->(∀b∈fp,FpOk X pins H b)->tn i s.heap->J.go i H →
  wpAny (model P w) X.A (pyNext (.ref it)) (fun r s1=>∃u,r=some u ∧
   wpAny (model P w) X.A (letOwnedTupleGo tg (.ref it) u) (fun _ s2=>∃x H',Inv X pins σ H' s2/\RelV x u/\J.yld i H x H'/\tn (i + 1) s2.heap/\∀b∈fp,H' b=none) E s1) E s
 done:∀(X:Cx),X.prog=P->X.w=w->X.K=K->X.calm=true->∀(i:Nat)(pins:List (Addr×Obj))(s:Shared)(σ:St)(H:Hp)(E:Value->Shared->Prop),Inv X pins σ H s->(∀b∈fp,FpOk X pins H b)->tn i s.heap->J.stop i H →
  wpAny (model P w) X.A (pyNext (.ref it)) (fun r s1=>r=none/\Inv X pins σ H s1) E s
 self:∀(A:Around)(i:Nat)(s:Shared)(Q:Value->Shared->Prop)(E:Value->Shared->Prop),tn i s.heap->Q (.ref it) s->wpAny (model P w) A (pyIter (.ref it)) Q E s
abbrev TI:=St->Hp->(It->Hp->Prop)->Prop
def PIE(X:Cx)(pins:List (Addr×Obj))(σ:St)(tg:Expr)(R:It->Hp->Prop)(itv:Value)(s2:Shared):Prop :=
 ∃(it:Addr) (fp:List Addr) (tn:Nat->Heap->Prop) (J:It) (H':Hp),itv=.ref it/\Inv X pins σ H' s2/\Turn X.prog X.w X.K tg J fp it tn/\tn 0 s2.heap/\(∀b∈fp,FpOk X pins H' b)/\R J H'
def PI(X:Cx)(tg iter:Expr)(wi:TI):Prop :=
 ∀(pins:List (Addr×Obj))(s:Shared)(σ:St)(H:Hp)(R:It->Hp->Prop),Inv X pins σ H s->wi σ H R →
  wpAny (model X.prog X.w) X.A (eval iter X.env) (fun v s1=>wpAny (model X.prog X.w) X.A (pyIter v) (PIE X pins σ tg R) X.xe s1) X.xe s
theorem go_of {M:Model} {A:Around} {E:Value->Shared->Prop} {s:Shared} {tg:Expr} {it:Addr} {u:Value} {o:Obj} {n:String} {vs:Array Value} {Q:Unit->Shared->Prop} (ho:s.heap.get? it=some o) (hc:o.cls=.type n) (hd:o.data=.fields vs)
    (hn:["enumerate", "zip", "dict_itemiterator", "dict_reverseitemiterator", "odict_iterator", "itertools.zip_longest", "itertools.pairwise"].contains n=false) (hQ:Q () s):wpAny M A (letOwnedTupleGo tg (.ref it) u) Q E s:=by
  unfold letOwnedTupleGo
  cases tg <;> first
    | exact wpAny_pure hQ
    | (cases u<;>first
        | exact wpAny_pure hQ
        | (refine wpAny_bind (wpAny_load ho ?_)
           rw[hc,hd]
           show wpAny M A (if (["enumerate", "zip", "dict_itemiterator", "dict_reverseitemiterator", "odict_iterator", "itertools.zip_longest", "itertools.pairwise"].contains n&&vs[0]?==some (rawInt _))=true then _ else _) Q E s
           rw[if_neg (by intro h;rw[hn,Bool.false_and]at h;cases h)]
           exact wpAny_pure hQ))
def Itl(K:PySem.W.Frag)(a:Addr):It :=
 ⟨fun i H=>∃xs x,SqL K H a xs/\xs[i]?=some x,fun i H x H'=>H'=H/\∀xs,SqL K H a xs->xs[i]?=some x,fun i H=>∃xs,SqL K H a xs/\xs.length<=i⟩
def Itt(K:PySem.W.Frag)(a:Addr):It :=
 ⟨fun i H=>∃xs x,SqT K H a xs/\xs[i]?=some x,fun i H x H'=>H'=H/\∀xs,SqT K H a xs->xs[i]?=some x,fun i H=>∃xs,SqT K H a xs/\xs.length<=i⟩
def Itr(lo:Int)(n:Nat):It:=⟨fun i _=>i < n,fun i H x H'=>H'=H/\x=.int (lo + i),fun i _=>n<=i⟩
theorem turn_list{P:Program}{w:World}{K:PySem.W.Frag}{tg:Expr}(a it:Addr):Turn P w K tg (Itl K a) [it] it (fun i h=>h.IsListIter it a i) where
 mem:=by simp
 obj:=fun i h st b hb=>by
  have e:b=it:=by simpa using hb
  subst e
  obtain⟨o,e,c,d⟩:=st
  exact⟨o,e,fun v z=>by rw[d]at z;cases z⟩
 keep:=fun i h h' st k=>st.at fun o e=>k it (by simp) o e
 item:=by
  intro X hP hw hK hc i pins s σ H E I hf st hg
  subst hP hw hK
  obtain⟨xs,x,hq,hx⟩:=hg
  obtain⟨its,rv,p,hz⟩:=I.list hq
  obtain⟨u,hu,ru⟩:=rv.get hx
  obtain⟨f0,f1,f2,f3,f4,f5⟩:=hf it (by simp)
  refine wpAny_pyNext_list_item st p.isList (x:=u) (by simpa using hu) fun h' st' sb=>?_
  have I1:Inv X pins σ H {s with heap:=h' }:=I.turned (t':=s.toks) (fun b o hb e=>(sb.2 b hb).trans e) f0 f1 f3 f4 f5
  obtain⟨o,e,c,d⟩:=id st'
  exact⟨u,rfl,go_of (s:={s with heap:=h' }) e c d (by decide) ⟨x,H,I1,ru,⟨rfl,fun ys hy=>by rw[I.list_inj hy hq];exact hx⟩,st',fun b hb=>(hf b hb).1⟩⟩
 done:=by
  intro X hP hw hK hc i pins s σ H E I hf st hg
  subst hP hw hK
  obtain⟨xs,hq,hx⟩:=hg
  obtain⟨its,rv,p,hz⟩:=I.list hq
  obtain⟨f0,f1,f2,f3,f4,f5⟩:=hf it (by simp)
  have hl:=rv.length
  exact wpAny_pyNext_list_end (I.ok.hd hc) st p.isList (by simp;omega) fun h' eb=>⟨rfl,I.turned (t':=s.toks) (fun b o hb e=>eb b o hb e) f0 f1 f3 f4 f5⟩
 self:=fun _ _ _ _ _ st h=>wpAny_pyIter_listiter st h
theorem turn_tuple{P:Program}{w:World}{K:PySem.W.Frag}{tg:Expr}(a it:Addr):Turn P w K tg (Itt K a) [it] it (fun i h=>h.IsTupleIter it a i) where
 mem:=by simp
 obj:=fun i h st b hb=>by
  have e:b=it:=by simpa using hb
  subst e
  obtain⟨o,e,c,d⟩:=st
  exact⟨o,e,fun v z=>by rw[d]at z;cases z⟩
 keep:=fun i h h' st k=>st.at fun o e=>k it (by simp) o e
 item:=by
  intro X hP hw hK hc i pins s σ H E I hf st hg
  subst hP hw hK
  obtain⟨xs,x,hq,hx⟩:=hg
  obtain⟨its,rv,p,hz⟩:=I.tuple hq
  obtain⟨u,hu,ru⟩:=rv.get hx
  obtain⟨f0,f1,f2,f3,f4,f5⟩:=hf it (by simp)
  refine wpAny_pyNext_tuple_item st (show s.heap.IsTuple a its.toArray from p) (x:=u) (by simpa using hu) fun h' st' sb=>?_
  have I1:Inv X pins σ H {s with heap:=h' }:=I.turned (t':=s.toks) (fun b o hb e=>(sb.2 b hb).trans e) f0 f1 f3 f4 f5
  obtain⟨o,e,c,d⟩:=id st'
  exact⟨u,rfl,go_of (s:={s with heap:=h' }) e c d (by decide) ⟨x,H,I1,ru,⟨rfl,fun ys hy=>by rw[I.tuple_inj hy hq];exact hx⟩,st',fun b hb=>(hf b hb).1⟩⟩
 done:=by
  intro X hP hw hK hc i pins s σ H E I hf st hg
  subst hP hw hK
  obtain⟨xs,hq,hx⟩:=hg
  obtain⟨its,rv,p,hz⟩:=I.tuple hq
  obtain⟨f0,f1,f2,f3,f4,f5⟩:=hf it (by simp)
  have hl:=rv.length
  exact wpAny_pyNext_tuple_end (I.ok.hd hc) st (show s.heap.IsTuple a its.toArray from p) (by simp;omega) fun h' eb=>⟨rfl,I.turned (t':=s.toks) (fun b o hb e=>eb b o hb e) f0 f1 f3 f4 f5⟩
 self:=fun _ _ _ _ _ st h=>wpAny_pyIter_tupleiter st h
theorem turn_range{P:Program}{w:World}{K:PySem.W.Frag}{tg:Expr}(it:Addr)(lo:Int)(n:Nat):Turn P w K tg (Itr lo n) [it] it (fun i h=>IsRangeIter h it (lo + (i:Nat) * 1) ((n:Int) - (i:Nat)) 1) where
 mem:=by simp
 obj:=fun i h st b hb=>by
  have e:b=it:=by simpa using hb
  subst e
  exact⟨_,st,fun v z=>by
   have z':Data.fields _=Data.cell v:=z
   cases z'⟩
 keep:=fun i h h' st k=>k it (by simp) _ st
 item:=by
  intro X hP hw hK hc i pins s σ H E I hf st hg
  subst hP hw hK
  obtain⟨f0,f1,f2,f3,f4,f5⟩:=hf it (by simp)
  have W:=Walks.range (prog:=X.prog) (w:=X.w) (I.ok.hd hc) it lo 1 n
  refine W.item i s _ _ hg st fun v h' tk hv st' kk=>?_
  obtain⟨t,rfl⟩:=hv
  have I1:Inv X pins σ H {s with heap:=h',toks:=tk}:=I.turned (fun b o hb e=>kk b o (by simpa using hb) e) f0 f1 f3 f4 f5
  refine⟨_,rfl,go_of (s:={s with heap:=h',toks:=tk}) (n := "range_iterator") st' rfl rfl (by decide) ⟨.int (lo + i),H,I1,⟨t,?_⟩,⟨rfl,rfl⟩,st',fun b hb=>(hf b hb).1⟩⟩
  rw[Int.mul_one]
 done:=by
  intro X hP hw hK hc i pins s σ H E I hf st hg
  subst hP hw hK
  obtain⟨f0,f1,f2,f3,f4,f5⟩:=hf it (by simp)
  exact wpAny_pyNext_range_end (I.ok.hd hc) st (by have:n<=i:=hg;omega) fun h' eb=>⟨rfl,I.turned (t':=s.toks) (fun b o hb e=>eb b o hb e) f0 f1 f3 f4 f5⟩
 self:=fun _ _ _ _ _ st h=>wpAny_pyIter_rangeiter st h
end L2
namespace L2
open PySem PySem.Spec PyProof.Rows
section
variable {X:Cx} {tg:Expr}
theorem range_it{pins:List (Addr×Obj)}{σ:St}{H:Hp}{s:Shared}{R:It->Hp->Prop}{E:Value->Shared->Prop}{lo hi:Int}{t u v:Tok}{tk:Nat}(I:Inv X pins σ H s)(h1:-(2 ^ 62)<=lo)(h2:lo < 2 ^ 62)(h3:-(2 ^ 62)<=hi)(h4:hi < 2 ^ 62)
  (q:R (Itr lo (hi - lo).toNat) H):wpAny (model X.prog X.w) X.A (pyIter (.ref s.heap.objs.size)) (PIE X pins σ tg R) E {s with heap:=s.heap.push {cls:=.type "range", data:=.fields #[.int lo t,.int hi u,.int 1 v]},toks:=tk}:=by
 refine wpAny_pyIter_range (IsRange.new ..) (small_one h1 h2 h3 h4) ?_
 have I1:Inv X pins σ H {s with heap:=s.heap.push {cls:=.type "range", data:=.fields #[.int lo t,.int hi u,.int 1 v]},toks:=tk}:=I.kept fun b o e=>Heap.get?_push_of_some _ e
 refine⟨(s.heap.push {cls:=.type "range", data:=.fields #[.int lo t,.int hi u,.int 1 v]}).objs.size,[(s.heap.push {cls:=.type "range", data:=.fields #[.int lo t,.int hi u,.int 1 v]}).objs.size],_,_,H,rfl,
  I1.kept (t':=tk) fun b o e=>Heap.get?_push_of_some _ e,turn_range _ lo (hi - lo).toNat,?_,fun b hb=>?_,q⟩
 ·have e1:lo + ((0:Nat):Int) * 1=lo:=by simp
  have e2:(((hi - lo).toNat:Nat):Int) - ((0:Nat):Int)=Builtin.Range.rangeSize lo hi 1:=by rw[rangeSize_one];split<;>omega
  show IsRangeIter _ _ (lo + ((0:Nat):Int) * 1) ((((hi - lo).toNat:Nat):Int) - ((0:Nat):Int)) 1
  rw[e1,e2]
  exact Heap.get?_push_size _ rfl
 ·have e:b=(s.heap.push {cls:=.type "range", data:=.fields #[.int lo t,.int hi u,.int 1 v]}).objs.size:=by simpa using hb
  subst e
  exact I1.fpOk (Nat.le_refl _) (I1.hok.fresh (Nat.le_refl _))
def iRng1(ta:TA):TI:=fun σ H R=>ta σ H fun vs H1=>∃j:Int,vs=[.int j] /\ -(2 ^ 62)<=j/\j < 2 ^ 62/\R (Itr 0 j.toNat) H1
theorem pi_range1{a:Expr}{ta:TA}{p pos:Pos} (hg:Gl X "range") (hm:X.mg "range" = none) (ha:PA X [a] ta) (hs:starEach [a] X.env=[(false,eval a X.env)]:=by rfl):PI X tg (.Call (.Name "range" p) [a] [] pos) (iRng1 ta):=by
 intro pins s σ H R I h
 refine Call_ (ld_blt I hg hm boot_range (PyProof.Rows.callWith_type1 (thn (ha pos pins s σ H _ I h) fun us s1 ⟨vs,H1,I1,r1,q1⟩=>?_) hs rfl))
 obtain⟨j,e,q1,q2,q⟩:=q1
 subst e
 cases r1 with
 | cons r rr =>
  cases rr
  obtain⟨t,rfl⟩:=r
  exact call_range_1 (range_it I1 (by omega) (by omega) q1 q2 (by simpa using q))
def tFor(wi:TI)(g:TG)(tb:TS):TS:=fun D σ H=>wi σ H fun J H1=>∃W:Nat->Nat->St->Hp->Prop,(∃m,W 0 m σ H1)/\∀i m σ H,W i m σ H →
 (J.stop i H/\D.nx σ H)∨(J.go i H/\∃N:St->Hp->Prop,(∀σ' H',N σ' H'->∃m',m' < m/\W (i + 1) m' σ' H')/\∀x H',J.yld i H x H'->g x σ H' fun σ2 H2=>tb {D with nx:=N,ct:=N,bk:=D.nx} σ2 H2)
def pinsAt(fp:List Addr)(h:Heap):List (Addr×Obj):=fp.filterMap fun b=>(h.get? b).map fun o=>(b,o)
theorem mem_pinsAt{fp:List Addr}{h:Heap}{b:Addr}{o:Obj}(hb:b∈fp)(e:h.get? b=some o):(b,o)∈pinsAt fp h:=List.mem_filterMap.mpr ⟨b,hb,by rw[e];rfl⟩
theorem of_pinsAt{fp:List Addr}{h:Heap}{p:Addr×Obj}(hp:p∈pinsAt fp h):p.1∈fp/\h.get? p.1=some p.2:=by
 obtain⟨b,hb,e⟩:=List.mem_filterMap.mp hp
 cases q:h.get? b with
 | none=>rw[q]at e;cases e
 | some o =>
  rw[q]at e
  have e':(b,o)=p:=Option.some.inj e
  subst e'
  exact⟨hb,q⟩
theorem Inv.pinned{pins:List (Addr×Obj)}{σ:St}{H:Hp}{s:Shared}{fp:List Addr}(I:Inv X pins σ H s)(hf:∀b∈fp,FpOk X pins H b)(ho:∀b∈fp,∃o,s.heap.get? b=some o/\∀v,o.data ≠ .cell v):Inv X (pins++pinsAt fp s.heap) σ H s :=
 I.pins_of fun p hp=>(List.mem_append.mp hp).elim (fun z=>I.pin p (List.mem_append_right _ z)) fun z=>by
  obtain⟨hb,e⟩:=of_pinsAt z
  obtain⟨f0,f1,f2,_⟩:=hf p.1 hb
  obtain⟨o,e',d⟩:=ho p.1 hb
  rw[e]at e';cases e'
  exact⟨e,f0,f1,f2,d⟩
theorem Inv.unpinned{pins pl:List (Addr×Obj)}{σ:St}{H:Hp}{s:Shared}(I:Inv X (pins++pl) σ H s):Inv X pins σ H s:=I.pins_of fun p hp=>I.pin p (List.mem_append_right _ (List.mem_append_left _ hp))
theorem ps_for{iter:Expr}{body:List Stmt}{wi:TI}{g:TG}{tb:TS}{pos:Pos}(hp:PassesOwn (model X.prog X.w) X.A X.env X.xe)(hc:X.calm=true)(hi:PI X tg iter wi)(hg:PG X tg g)(hb:PSs X body tb)
  (hs:∀x,foldedSetIterable iter X.env x=pure x:=by intro _;rfl):PS X (.For tg iter body [] pos) (tFor wi g tb):=by
 intro pins s σ H D I h
 refine wpAny_For (thn (hi pins s σ H _ I h) fun v s1 h1=>thn h1 fun itv s2 h2=>?_) hs
 obtain⟨it,fp,tn,J,H2,e,I2,T,st2,f2,W,⟨m0,w0⟩,turn⟩:=h2
 subst e
 have stat:∀{H':Hp},(∀b∈fp,H' b=none)->∀b∈fp,FpOk X pins H' b:=fun hn b hb=>⟨hn b hb,(f2 b hb).2⟩
 refine codeAny_forLoop_any (fun n s'=>∃i σ' H',Inv X pins σ' H' s'/\tn i s'.heap/\(∀b∈fp,H' b=none)/\W i n σ' H') ?_ m0 ⟨0,σ,H2,I2,st2,fun b hb=>(f2 b hb).1,w0⟩
 rintro n s3 ⟨i,σ3,H3,I3,st3,fr3,w3⟩
 rcases turn i n σ3 H3 w3 with ⟨stop,qn⟩|⟨go,N,hN,step⟩
 ·refine wpAny_passesOwn hp (thn (T.done X rfl rfl rfl hc i pins s3 σ3 H3 X.xe I3 (stat fr3) st3 stop) fun r s4 ⟨hr,I4⟩=>?_)
  subst hr
  exact wpAny_execs_nil ⟨σ3,H3,I4,qn⟩
 ·refine wpAny_passesOwn hp (thn (T.item X rfl rfl rfl hc i pins s3 σ3 H3 X.xe I3 (stat fr3) st3 go) fun r s4 ⟨u,hr,h4⟩=>?_)
  subst hr
  refine wpAny_passesOwn hp (thn h4 fun _ s5 ⟨x,H5,I5,r5,y5,st5,fr5⟩=>?_)
  have I5':=I5.pinned (stat fr5) (T.obj _ _ st5)
  refine wpAny_passesOwn hp (thn (hg _ s5 σ3 H5 x u _ I5' r5 (step x H5 y5)) fun _ s6 ⟨σ6,H6,I6,q6⟩=>?_)
  refine wpAny_passesOwn hp (thn (hb _ s6 σ6 H6 _ I6 q6) fun f s7 q7=>?_)
  have again:∀{σ7:St}{H7:Hp},Inv X (pins++pinsAt fp s5.heap) σ7 H7 s7->N σ7 H7->∃m,m < n/\∃i σ' H',Inv X pins σ' H' s7/\tn i s7.heap/\(∀b∈fp,H' b=none)/\W i m σ' H':=fun {σ7 H7} I7 n7=>by
   obtain⟨m',hm,w7⟩:=hN σ7 H7 n7
   refine⟨m',hm,i + 1,σ7,H7,I7.unpinned,T.keep _ _ _ st5 fun b hb o e=>(I7.pin (b,o) (List.mem_append_right _ (List.mem_append_right _ (mem_pinsAt hb e)))).1,fun b hb=>?_,w7⟩
   obtain⟨o,e,d⟩:=T.obj _ _ st5 b hb
   exact(I7.pin (b,o) (List.mem_append_right _ (List.mem_append_right _ (mem_pinsAt hb e)))).2.1
  cases f with
  | next=>obtain⟨σ7,H7,I7,n7⟩:=q7;exact again I7 n7
  | cont=>obtain⟨σ7,H7,I7,n7⟩:=q7;exact again I7 n7
  | brk=>obtain⟨σ7,H7,I7,q7⟩:=q7;exact⟨σ7,H7,I7.unpinned,q7⟩
  | ret v=>obtain⟨x7,σ7,H7,I7,r7,q7⟩:=q7;exact⟨x7,σ7,H7,I7.unpinned,r7,q7⟩
end
end L2
namespace L2
open PySem PySem.Spec PyProof.Rows
abbrev R2:=V->V->Hp->VK->Prop
def OpR(X:Cx)(f:Value->Value->Sem Value)(r:R2):Prop :=
 ∀(pins:List (Addr×Obj))(s:Shared)(σ:St)(H:Hp)(x y:V)(v u:Value)(Q:VK),Inv X pins σ H s->RelV x v->RelV y u->r x y H Q →
  wpAny (model X.prog X.w) X.A (f v u) (EP X pins σ Q) X.xe s
def UnR(X:Cx)(f:Value->Sem Value)(r:V->Hp->VK->Prop):Prop :=
 ∀(pins:List (Addr×Obj))(s:Shared)(σ:St)(H:Hp)(x:V)(v:Value)(Q:VK),Inv X pins σ H s->RelV x v->r x H Q →
  wpAny (model X.prog X.w) X.A (f v) (EP X pins σ Q) X.xe s
def CallR(X:Cx)(f:Value)(r:List V->Hp->VK->Prop):Prop :=
 ∀(pins:List (Addr×Obj))(s:Shared)(σ:St)(H:Hp)(xs:List V)(us:List Value)(Q:VK),Inv X pins σ H s->Vals xs us->r xs H Q →
  wpAny (model X.prog X.w) X.A (call f us) (EP X pins σ Q) X.xe s
def TruR(X:Cx)(r:V->Hp->(Bool->Hp->Prop)->Prop):Prop :=
 ∀(pins:List (Addr×Obj))(s:Shared)(σ:St)(H:Hp)(x:V)(v:Value)(Q:Bool->Hp->Prop),Inv X pins σ H s->RelV x v->r x H Q →
  wpAny (model X.prog X.w) X.A (truthy v) (TP X pins σ Q) X.xe s
def tOp(r:R2)(ta tb:TE):TE:=fun σ H Q=>ta σ H fun x H1=>tb σ H1 fun y H2=>r x y H2 Q
def tUn(r:V->Hp->VK->Prop)(ta:TE):TE:=fun σ H Q=>ta σ H fun x H1=>r x H1 Q
def rI(C:Int->Int->Prop)(g:Int->Int->V):R2:=fun x y H Q=>∃i j,x=.int i/\y=.int j/\C i j/\Q (g i j) H
def rI0(g:Int->Int->V):R2:=fun x y H Q=>∃i j,x=.int i/\y=.int j/\Q (g i j) H
def rU(g:Int->V):V->Hp->VK->Prop:=fun x H Q=>∃i,x=.int i/\Q (g i) H
section
variable {X:Cx} {a b c:Expr} {ta tb tc:TE} {pos:Pos}
theorem binT(ha:PE X a ta)(hb:PE X b tb){pins:List (Addr×Obj)}{s:Shared}{σ:St}{H:Hp}{R:V->V->Hp->Prop}(I:Inv X pins σ H s)
  (h:ta σ H fun x H1=>tb σ H1 fun y H2=>R x y H2) {Q:Value->Shared->Prop} {f:Value->Value->Sem Value}
  (hf:∀v u s2 x y H2,Inv X pins σ H2 s2->RelV x v->RelV y u->R x y H2->wpAny (model X.prog X.w) X.A (f v u) Q X.xe s2) :
  wpAny (model X.prog X.w) X.A (eval a X.env) (fun v s₁=>wpAny (model X.prog X.w) X.A (eval b X.env) (fun u s₂=>wpAny (model X.prog X.w) X.A (f v u) Q X.xe s₂) X.xe s₁) X.xe s:=by
 refine thn (ha pins s σ H _ I h) fun v s1 ⟨x,H1,I1,r1,q1⟩=>?_
 refine thn (hb pins s1 σ H1 _ I1 q1) fun u s2 ⟨y,H2,I2,r2,q2⟩=>?_
 exact hf v u s2 x y H2 I2 r1 r2 q2
theorem pe_op{op:Operator}{r:R2}(ho:OpR X (binaryOp op) r)(ha:PE X a ta)(hb:PE X b tb):PE X (.BinOp a op b pos) (tOp r ta tb):=by
 intro pins s σ H Q I h
 exact wpAny_BinOp (binT ha hb I h fun v u s2 x y H2 I2 rx ry q=>ho pins s2 σ H2 x y v u Q I2 rx ry q)
theorem pe_un{op:UnaryOp}{r:V->Hp->VK->Prop}(ho:UnR X (unaryOp op) r)(ha:PE X a ta):PE X (.UnaryOp op a pos) (tUn r ta):=by
 intro pins s σ H Q I h
 exact UnaryOp_ (thn (ha pins s σ H _ I h) fun v s1 ⟨x,H1,I1,r1,q1⟩=>ho pins s1 σ H1 x v Q I1 r1 q1)
theorem opI{f:Value->Value->Sem Value}{C:Int->Int->Prop}{g:Int->Int->Int}
  (rule:∀(i j:Int)(t u:Tok)(s:Shared)(Q:Value->Shared->Prop)(E:Value->Shared->Prop),C i j->Q (.int (g i j) s.toks) {s with toks:=s.toks + 1}->wpAny (model X.prog X.w) X.A (f (.int i t) (.int j u)) Q E s) :
  OpR X f (rI C fun i j=>.int (g i j)):=by
 intro pins s σ H x y v u Q I rx ry h
 obtain⟨i,j,rfl,rfl,hc,q⟩:=h
 obtain⟨t,rfl⟩:=rx
 obtain⟨t',rfl⟩:=ry
 exact rule i j t t' s _ _ hc ⟨.int (g i j),H,I.tok _,⟨_,rfl⟩,q⟩
theorem opI0{f:Value->Value->Sem Value}{g:Int->Int->Int}
  (rule:∀(i j:Int)(t u:Tok)(s:Shared)(Q:Value->Shared->Prop)(E:Value->Shared->Prop),Q (.int (g i j) s.toks) {s with toks:=s.toks + 1}->wpAny (model X.prog X.w) X.A (f (.int i t) (.int j u)) Q E s) :
  OpR X f (rI0 fun i j=>.int (g i j)):=by
 intro pins s σ H x y v u Q I rx ry h
 obtain⟨i,j,rfl,rfl,q⟩:=h
 obtain⟨t,rfl⟩:=rx
 obtain⟨t',rfl⟩:=ry
 exact rule i j t t' s _ _ ⟨.int (g i j),H,I.tok _,⟨_,rfl⟩,q⟩
theorem opB0{f:Value->Value->Sem Value}{g:Int->Int->Bool}
  (rule:∀(i j:Int)(t u:Tok)(s:Shared)(Q:Value->Shared->Prop)(E:Value->Shared->Prop),Q (.bool (g i j)) s->wpAny (model X.prog X.w) X.A (f (.int i t) (.int j u)) Q E s) :
  OpR X f (rI0 fun i j=>.bl (g i j)):=by
 intro pins s σ H x y v u Q I rx ry h
 obtain⟨i,j,rfl,rfl,q⟩:=h
 obtain⟨t,rfl⟩:=rx
 obtain⟨t',rfl⟩:=ry
 exact rule i j t t' s _ _ ⟨.bl (g i j),H,I,rfl,q⟩
def CPow(i j:Int):Prop:=0<=j/\j<=1000000/\i.natAbs < 2 ^ 64
def CMul(i j:Int):Prop:=(-(2 ^ 64) < i/\i < 2 ^ 64)∨(-(2 ^ 64) < j/\j < 2 ^ 64)
theorem CMul.ok{i j:Int}(h:CMul i j):IntMulOk i j:=by
 rcases h with ⟨h1,h2⟩|⟨h1,h2⟩
 ·exact .of_left (intBits_le_64 h1 h2)
 ·exact .of_right (intBits_le_64 h1 h2)
theorem op_add:OpR X (binaryOp .Add) (rI0 fun i j=>.int (i + j)):=opI0 fun _ _ _ _ _ _ _ q=>add_int q
theorem op_sub:OpR X (binaryOp .Sub) (rI0 fun i j=>.int (i - j)):=opI0 fun _ _ _ _ _ _ _ q=>sub_int q
theorem op_modN:OpR X (binaryOp .Mod) (rI (fun _ j=>j≠0) fun i j=>.int (i.fmod j)):=opI fun _ _ _ _ _ _ _ hc q=>mod_int' hc q
theorem op_pow:OpR X (binaryOp .Pow) (rI CPow fun i j=>.int (i ^ j.toNat)):=opI fun _ _ _ _ _ _ _ hc q=>pow_int_small hc.1 hc.2.1 hc.2.2 q
theorem unI{f:Value->Sem Value}{g:Int->Int}
  (rule:∀(i:Int)(t:Tok)(s:Shared)(Q:Value->Shared->Prop)(E:Value->Shared->Prop),Q (.int (g i) s.toks) {s with toks:=s.toks + 1}->wpAny (model X.prog X.w) X.A (f (.int i t)) Q E s) :
  UnR X f (rU fun i=>.int (g i)):=by
 intro pins s σ H x v Q I rx h
 obtain⟨i,rfl,q⟩:=h
 obtain⟨t,rfl⟩:=rx
 exact rule i t s _ _ ⟨.int (g i),H,I.tok _,⟨_,rfl⟩,q⟩
theorem un_neg:UnR X (unaryOp .USub) (rU fun i=>.int (-i)):=unI fun _ _ _ _ _ q=>neg_int q
end
section
variable {X:Cx} {a b c:Expr} {ta tb tc:TE} {pos:Pos}
theorem fin_bl{pins:List (Addr×Obj)}{σ:St}{H:Hp}{s:Shared}{Q:VK}{k k':Bool}(I:Inv X pins σ H s)(q:Q (.bl k) H)(e:k=k'):EP X pins σ Q (.bool k') s:=by
 subst e
 exact⟨.bl k,H,I,rfl,q⟩
theorem op_lt:OpR X (compareOp .Lt) (rI0 fun i j=>.bl (decide (i < j))):=opB0 fun _ _ _ _ _ _ _ q=>lt_int q
theorem op_le:OpR X (compareOp .LtE) (rI0 fun i j=>.bl (decide (i<=j))):=opB0 fun _ _ _ _ _ _ _ q=>le_int q
theorem op_gt:OpR X (compareOp .Gt) (rI0 fun i j=>.bl (decide (j < i))):=opB0 fun _ _ _ _ _ _ _ q=>gt_int q
theorem op_ge:OpR X (compareOp .GtE) (rI0 fun i j=>.bl (decide (j<=i))):=opB0 fun _ _ _ _ _ _ _ q=>ge_int q
theorem op_isN:OpR X (compareOp .Is) (fun x y H Q=>y=.non/\Q (.bl (decide (x=.non))) H):=by
 intro pins s σ H x y v u Q I rx ry h
 obtain⟨rfl,q⟩:=h
 cases ry
 refine is_none_gen (fin_bl I q ?_)
 cases x<;>first
  | (cases rx;rfl)
  | (obtain⟨t,rfl⟩:=rx;rfl)
theorem OpR.or{f:Value->Value->Sem Value}{r r':R2}(h:OpR X f r)(h':OpR X f r'):OpR X f (fun x y H Q=>r x y H Q∨r' x y H Q):=by
 intro pins s σ H x y v u Q I rx ry q
 rcases q with q|q
 ·exact h pins s σ H x y v u Q I rx ry q
 ·exact h' pins s σ H x y v u Q I rx ry q
theorem nomark(b:Expr){op:CmpOp}(h:op ≠ .In:=by decide)(h2:op ≠ .NotIn:=by decide):behindInMarks op b=false:=by
 have e1:(op==CmpOp.In)=false:=by cases op<;>first|rfl|exact absurd rfl h
 have e2:(op==CmpOp.NotIn)=false:=by cases op<;>first|rfl|exact absurd rfl h2
 cases b<;>simp[behindInMarks,e1,e2]
theorem pe_cmpR{op:CmpOp}{r:R2}(ho:OpR X (compareOp op) r)(ha:PE X a ta)(hb:PE X b tb)(hm:behindInMarks op b=false):PE X (.Compare a [op] [b] pos) (tOp r ta tb):=by
 intro pins s σ H Q I h
 exact wpAny_Compare1 (binT ha hb I h fun v u s2 x y H2 I2 rx ry q=>ho pins s2 σ H2 x y v u Q I2 rx ry q) hm
def tTest(t:TE):TT:=fun σ H Q=>t σ H fun x H'=>∃k,x=.bl k/\Q k H'
theorem pt_cmpR{op:CmpOp}{r:R2}(ho:OpR X (compareOp op) r)(ha:PE X a ta)(hb:PE X b tb)(hm:behindInMarks op b=false):PT X (.Compare a [op] [b] pos) (tTest (tOp r ta tb)):=by
 intro pins s σ H Q I h
 refine wpAny_isTrue_Compare1 (thn (ha pins s σ H _ I h) fun v s1 ⟨x,H1,I1,r1,q1⟩=>thn (hb pins s1 σ H1 _ I1 q1) fun u s2 ⟨y,H2,I2,r2,q2⟩ =>
  thn (ho pins s2 σ H2 x y v u _ I2 r1 r2 q2) fun c s3 ⟨z,H3,I3,r3,k,e,q3⟩=>?_) hm
 subst e
 cases r3
 exact wpAny_truthy_bool ⟨H3,I3,q3⟩
def tChain(r r':R2)(ta tb tc:TE):TE:=fun σ H Q=>ta σ H fun x H1=>tb σ H1 fun y H2=>r x y H2 fun z H3=>∃k,z=.bl k ∧
 (if k=true then tc σ H3 fun w' H4=>r' y w' H4 Q else Q (.bl false) H3)
theorem pt_chain{op op':CmpOp}{r r':R2}(ho:OpR X (compareOp op) r)(ho':OpR X (compareOp op') r')(ha:PE X a ta)(hb:PE X b tb)(hc:PE X c tc)
  (hm:lastMarks [op,op'] [b,c]=false:=by with_unfolding_all rfl):PT X (.Compare a [op,op'] [b,c] pos) (tTest (tChain r r' ta tb tc)):=by
 intro pins s σ H Q I h
 refine isTrue_chain (thn (ha pins s σ H _ I h) fun v s1 ⟨x,H1,I1,r1,q1⟩=>test_link (thn (hb pins s1 σ H1 _ I1 q1) fun u s2 ⟨y,H2,I2,r2,q2⟩ =>
  thn (ho pins s2 σ H2 x y v u _ I2 r1 r2 q2) fun d s3 ⟨z,H3,I3,r3,k,e,q3⟩=>?_)) hm
 subst e
 cases r3
 refine wpAny_truthy_bool ?_
 cases k with
 | false =>
  obtain⟨k',e',q'⟩:=q3
  cases e'
  exact ite_ff ⟨H3,I3,q'⟩
 | true =>
  refine ite_tt (test_last (thn (hc pins s3 σ H3 _ I3 q3) fun w' s4 ⟨z',H4,I4,r4,q4⟩=>thn (ho' pins s4 σ H4 y z' u w' _ I4 r2 r4 q4) fun d' s5 ⟨z2,H5,I5,r5,k2,e2,q5⟩=>?_))
  subst e2
  cases r5
  exact wpAny_truthy_bool ⟨H5,I5,q5⟩
def TruV(K:PySem.W.Frag)(x:V)(H:Hp)(k:Bool):Prop :=
 match x with
 | .non=>k=false
 | .bl b=>k=b
 | .int i=>k=(i != 0)
 | .str y=>y.length<=sizeLine/\k=((y.length:Int) != 0)
 | .byt y=>y.size<=sizeLine/\k=((y.size:Int) != 0)
 | .ref p=>(∃xs,SqL K H p xs/\k=!xs.isEmpty)∨(∃xs,SqT K H p xs/\k=!xs.isEmpty)∨∃kvs,H p=some (.dK kvs)/\k=!kvs.isEmpty
 | _=>False
theorem isEmpty_kv{κ:Type}{kvs:List (κ×V)}{vs:List (κ×Value)}(r:KV kvs vs):(!vs.isEmpty)=!kvs.isEmpty:=by
 cases r<;>rfl
theorem isEmpty_of{xs:List V}{its:List Value}(r:Vals xs its):(!its.toArray.isEmpty)=!xs.isEmpty:=by
 cases r<;>simp
theorem line63:(sizeLine:Nat) < 2 ^ 63:=by rw[sizeLine_eq];decide
theorem tru_ok:TruR X (fun x H Q=>∃k,TruV X.K x H k/\Q k H):=by
 intro pins s σ H x v Q I rx h
 obtain⟨k,e,q⟩:=h
 have hl:=line63
 have hs:sizeLine=16777216:=sizeLine_eq
 cases x with
 | non =>
  cases rx
  have e':k=false:=e
  subst e'
  exact truthy_none ⟨H,I,q⟩
 | bl b =>
  cases rx
  have e':k=b:=e
  subst e'
  exact wpAny_truthy_bool ⟨H,I,q⟩
 | int i =>
  obtain⟨t,rfl⟩:=rx
  have e':k=(i != 0):=e
  subst e'
  exact PySem.P.truthy_int ⟨H,I,q⟩
 | str y =>
  obtain⟨t,rfl⟩:=rx
  obtain⟨hy,e'⟩:y.length<=sizeLine/\k=((y.length:Int) != 0):=e
  subst e'
  exact PySem.P.truthy_str (by omega) ⟨H,I.tok _,q⟩
 | byt y =>
  obtain⟨t,rfl⟩:=rx
  obtain⟨hy,e'⟩:y.size<=sizeLine/\k=((y.size:Int) != 0):=e
  subst e'
  exact PySem.W.truthy_bytes (by omega) ⟨H,I.tok _,q⟩
 | ref p =>
  cases rx
  have e':(∃xs,SqL X.K H p xs/\k=!xs.isEmpty)∨(∃xs,SqT X.K H p xs/\k=!xs.isEmpty)∨∃kvs,H p=some (.dK kvs)/\k=!kvs.isEmpty:=e
  rcases e' with ⟨xs,hx,e'⟩|⟨xs,hx,e'⟩|⟨kvs,hx,e'⟩
  ·subst e'
   obtain⟨its,r,pl,hz⟩:=I.list hx
   have hlen:=r.length
   exact wpAny_truthy_list pl.isList (by simp only[List.size_toArray];omega) ⟨H,I.tok _,by rw[isEmpty_of r];exact q⟩
  ·subst e'
   obtain⟨its,r,pl,hz⟩:=I.tuple hx
   have hlen:=r.length
   exact truthy_tuple pl (by simp only[List.size_toArray];omega) ⟨H,I.tok _,by rw[isEmpty_of r];exact q⟩
  ·subst e'
   obtain⟨hz,hS,vs,r,m⟩:kvs.length<=sizeLine/\(p==sysModules)=false/\∃vs,KV kvs vs/\s.heap.DictOf (mixKind X.prog X.w) p vs:=I.hok p _ hx
   have hlen:kvs.length=vs.length:=Paired.length r
   exact wpAny_truthy_dict hS m (by omega) ⟨H,I.tok _,by rw[isEmpty_kv r];exact q⟩
 | _=>exact(show False from e).elim
theorem pt_truth(ha:PE X a ta)(he:∀whole,isTrue a X.env whole=(do let v ← whole;standAt a.pos;holding [v] (truthy v))) :
  PT X a (fun σ H Q=>ta σ H fun x H'=>∃k,TruV X.K x H' k/\Q k H'):=by
 intro pins s σ H Q I h
 exact isTrue_plain (thn (ha pins s σ H _ I h) fun v s1 ⟨x,H1,I1,r1,q1⟩=>tru_ok pins s1 σ H1 x v Q I1 r1 q1) (he _)
theorem op_add_str:OpR X (binaryOp .Add) (fun x y H Q=>∃i j,x=.str i/\y=.str j/\i.length + j.length<=sizeLine/\Q (.str (i++j)) H):=by
 intro pins s σ H x y v u Q I rx ry h
 obtain⟨i,j,rfl,rfl,hz,q⟩:=h
 obtain⟨t,rfl⟩:=rx
 obtain⟨t',rfl⟩:=ry
 exact add_str (fun t' tk=>⟨.str (i++j),H,I.tok _,⟨_,rfl⟩,q⟩) hz
theorem vals1{x:V}{us:List Value}(r:Vals [x] us):∃u,us=[u]/\RelV x u:=by
 cases r with
 | cons r1 r2=>cases r2;exact⟨_,rfl,r1⟩
theorem vals2{x y:V}{us:List Value}(r:Vals [x,y] us):∃u w',us=[u,w']/\RelV x u/\RelV y w':=by
 cases r with
 | cons r1 r2 =>
  cases r2 with
  | cons r3 r4=>cases r4;exact⟨_,_,rfl,r1,r3⟩
theorem call_abs:CallR X (.builtin "abs") (fun xs H Q=>∃i,xs=[.int i]/\Q (.int (if i < 0 then -i else i)) H):=by
 intro pins s σ H xs us Q I r h
 obtain⟨i,rfl,q⟩:=h
 obtain⟨u,rfl,t,rfl⟩:=vals1 r
 exact call_abs_int fun u tk=>⟨.int (if i < 0 then -i else i),H,I.tok _,⟨_,rfl⟩,q⟩
theorem call_max2(hc:X.calm=true):CallR X (.builtin "max") (fun xs H Q=>∃i j,xs=[.int i,.int j]/\Q (.int (if j > i then j else i)) H):=by
 intro pins s σ H xs us Q I r h
 obtain⟨i,j,rfl,q⟩:=h
 obtain⟨u,w',rfl,⟨t,rfl⟩,⟨t',rfl⟩⟩:=vals2 r
 refine max_two_ints (I.ok.hd hc) fun h' tk k=>⟨_,H,I.kept k,?_,q⟩
 by_cases hj:j > i
 ·rw[if_pos hj,if_pos hj];exact⟨_,rfl⟩
 ·rw[if_neg hj,if_neg hj];exact⟨_,rfl⟩
theorem call_min2(hc:X.calm=true):CallR X (.builtin "min") (fun xs H Q=>∃i j,xs=[.int i,.int j]/\Q (.int (if j < i then j else i)) H):=by
 intro pins s σ H xs us Q I r h
 obtain⟨i,j,rfl,q⟩:=h
 obtain⟨u,w',rfl,⟨t,rfl⟩,⟨t',rfl⟩⟩:=vals2 r
 refine min_two_ints (I.ok.hd hc) fun h' tk k=>⟨_,H,I.kept k,?_,q⟩
 by_cases hj:j < i
 ·rw[if_pos hj,if_pos hj];exact⟨_,rfl⟩
 ·rw[if_neg hj,if_neg hj];exact⟨_,rfl⟩
theorem call_int1:CallR X (.type "int") (fun xs H Q=>(∃i,xs=[.int i]/\Q (.int i) H)∨∃k,xs=[.bl k]/\Q (.int (if k then 1 else 0)) H):=by
 intro pins s σ H xs us Q I r h
 rcases h with ⟨i,rfl,q⟩|⟨k,rfl,q⟩
 ·obtain⟨u,rfl,t,rfl⟩:=vals1 r
  exact call_int_int ⟨.int i,H,I,⟨_,rfl⟩,q⟩
 ·obtain⟨u,rfl,r1⟩:=vals1 r
  cases r1
  exact call_int_bool ⟨.int (if k then 1 else 0),H,I.tok _,⟨_,rfl⟩,q⟩
end
end L2
namespace L2
open PySem PySem.Spec PyProof.Rows
structure ObjM(h:Heap)(x dx C:Addr)(mA:Str->Option Value):Prop where
 obj:h.get? x=some (PySem.W.instObj C dx)
 ns:h.Ns1 dx mA
 ne:dx≠x
theorem lookIn_ns{h:Heap}{dx:Addr}{mA:Str->Option Value}(n:h.Ns1 dx mA):∃od,h.get? dx=some od/\∀name,PySem.W.lookIn name od=some (mA name):=by
 obtain⟨o,es,ep,ho,hd,hk,_,hm⟩:=n
 refine⟨o,ho,fun name=>?_⟩
 have e:=hm name
 unfold nsFind findBy at e
 rw[← Array.find?_toList]at e
 unfold PySem.W.lookIn
 rw[hd]
 dsimp only
 split
 ·rename_i y q
  rw[q]at e
  exact congrArg some e
 ·rename_i q
  rw[q]at e
  have a:es.toList.any (·.refKey)=false:=by
   rw[List.any_eq_false]
   intro y hy
   obtain⟨z,t,hkey⟩:=hk y (Array.mem_toList_iff.mp hy)
   simp[DictEntry.refKey,hkey]
  have a':¬ es.toList.any (·.refKey)=true:=by rw[a];exact Bool.false_ne_true
  rw[if_neg a']
  exact congrArg some e
theorem ObjM.look{h:Heap}{x dx C:Addr}{mA:Str->Option Value}(I:ObjM h x dx C mA):∃od,PySem.W.InstAt h x (PySem.W.instObj C dx) C (some od)/\∀name,PySem.W.lookIn name od=some (mA name) :=
 let ⟨od,ho,hl⟩:=lookIn_ns I.ns
 ⟨od,⟨I.obj,rfl,rfl,ho⟩,hl⟩
section
variable {prog:Program} {w:World} {A:Around} {E:Value->Shared->Prop} {s:Shared} {K:PySem.W.Frag} {x dx C f:Addr} {mA:Str->Option Value} {name:Str} {v:Value}
end
section
variable {P:Program} {w:World} {H H':Hp} {h h':Heap} {a C dx:Addr} {fs fs':List (Str×V)}
end
structure Cls(K:PySem.W.Frag)(C:Addr):Prop where
 pg:PySem.W.plainGet K C Str.empty=true
 hd:PySem.W.hasDictIn K C=true
 po:PySem.W.plainOver K C=true
 sa:PySem.W.findIn K (.ref C) "__setattr__" = some (some (.builtin "object.__setattr__"))
theorem Cls.get{K:PySem.W.Frag}{C:Addr}(c:Cls K C)(f:Str):PySem.W.plainGet K C f=true:=c.pg
structure Con(K:PySem.W.Frag)(C:Addr)(f:Str)(v:V)(u:Value):Prop where
 at_:PySem.W.findIn K (.ref C) f=some (some u)
 rel:RelV v u
 get:PySem.W.specialIn K u "__get__" = some none
 cp:PySem.W.copiedNames.contains f=false
structure Meth(K:PySem.W.Frag)(C:Addr)(m:Str)(f:Addr):Prop where
 at_:PySem.W.findIn K (.ref C) m=some (some (.ref f))
 fn:PySem.W.isFn K (.ref f)=true
 kp:PySem.W.keepIn K (.ref f)=true
section
variable {X:Cx} {pins:List (Addr×Obj)} {σ:St} {H:Hp} {s:Shared} {a C dx:Addr} {fs:List (Str×V)} {f:Str} {v:V} {A:Around} {E:Value->Shared->Prop}
theorem Inv.made(I:Inv X pins σ H s):Inv X pins σ (upd (upd H s.heap.objs.size (.own (s.heap.objs.size + 1))) (s.heap.objs.size + 1) (.ins C s.heap.objs.size []))
  {s with heap:=(s.heap.push PySem.W.emptyDict).push (PySem.W.instObj C s.heap.objs.size)}:=by
 have e1:(s.heap.push PySem.W.emptyDict).get? s.heap.objs.size=some PySem.W.emptyDict:=Heap.get?_push_size s.heap rfl
 have e2:((s.heap.push PySem.W.emptyDict).push (PySem.W.instObj C s.heap.objs.size)).get? (s.heap.objs.size + 1)=some (PySem.W.instObj C s.heap.objs.size):=by
  have:=Heap.get?_push_size (s.heap.push PySem.W.emptyDict) (o:=PySem.W.instObj C s.heap.objs.size) rfl
  rwa [Heap.size_push]at this
 have e3:(s.heap.push PySem.W.emptyDict).Ns s.heap.objs.size (fun _=>none):=⟨PySem.W.emptyDict,#[],_,e1,rfl,(fun e he=>absurd he (by simp)),fun _=>rfl⟩
 have I1:=I.laid (a:=s.heap.objs.size) (o:=.own (s.heap.objs.size + 1)) (h':=s.heap.push PySem.W.emptyDict) (t':=s.toks) (fun b u q=>Heap.get?_push_of_some _ q) (Nat.le_refl _) ⟨_,e1⟩
 refine I1.laid (a:=s.heap.objs.size + 1) (o:=.ins C s.heap.objs.size []) (t':=s.toks) (fun b u q=>Heap.get?_push_of_some _ q) (Nat.le_of_eq (Heap.size_push _ _)) ?_
 have ne:s.heap.objs.size≠s.heap.objs.size + 1:=Nat.ne_of_lt (Nat.lt_succ_self _)
 refine⟨by rw[upd_ne ne,upd_same],Nat.zero_le _,ne,e2,fun _=>none,(Heap.Ns1.of_empty e3).at fun o q=>Heap.get?_push_of_some _ q,fun _=>True.intro,fun y hy=>absurd rfl hy⟩
theorem attr_of{prog:Program}{w:World}{env:Env}{e:Expr}{f:Str}{pos:Pos}{s:Shared}{Q:Value->Shared->Prop}(hb:attributeBase e f env (eval e env)=eval e env)
  (h:wpAny (model prog w) A (eval e env) (fun o s₁=>wpAny (model prog w) A (getAttr o f true) Q E s₁) E s):wpAny (model prog w) A (eval (.Attribute e f pos) env) Q E s :=
 Attribute_any_ h (by rw[arm_eval_Attribute,hb])
end
section
variable {X:Cx} {o e value:Expr} {f:Str} {pos pos' tpos:Pos} {ta tv:TE}
end
section
variable {X:Cx} {pins:List (Addr×Obj)} {σ:St} {H:Hp} {s:Shared} {A:Around} {E:Value->Shared->Prop} {Q:Value->Shared->Prop} {c:Value} {b:Bool}
inductive TyOf (K:PySem.W.Frag) (H:Hp):V->Value->Prop where
 | non:TyOf K H .non (.type "NoneType")
 | bl (x:Bool):TyOf K H (.bl x) (.type "bool")
 | int (i:Int):TyOf K H (.int i) (.type "int")
 | str (x:Str):TyOf K H (.str x) (.type "str")
 | flt (x:UInt64):TyOf K H (.flt x) (.type "float")
 | lst {a:Addr} {xs:List V} (e:H a=some (.lst xs)):TyOf K H (.ref a) (.type "list")
 | frz {a:Addr} {o:Obj} {xs:List V} (e:H a=some (.frz o (.lst xs))):TyOf K H (.ref a) (.type "list")
 | tup {a:Addr} {xs:List V} (e:H a=some (.tup xs)):TyOf K H (.ref a) (.type "tuple")
 | dK {a:Addr} {kvs:List (Key×V)} (e:H a=some (.dK kvs)):TyOf K H (.ref a) (.type "dict")
 | dT {a:Addr} {kvs:List (List Key×V)} (e:H a=some (.dT kvs)):TyOf K H (.ref a) (.type "dict")
 | ins {a C dx:Addr} {fs:List (Str×V)} (e:H a=some (.ins C dx fs)) (cl:Cls K C) (ha:PySem.W.findIn K (.ref C) "__class__" = some (some (.builtin "object.__class__")))
   (hn:PySem.W.specialIn K (.builtin "object.__class__") "__get__" = some (some (.builtin "getset_descriptor.__get__"))) (htk:PySem.W.takesIn K (.builtin "object.__class__")=some true)
   (hm:PySem.W.mroIn K C (.type "object")=some true):TyOf K H (.ref a) (.ref C)
end
end L2
namespace L2
open PySem PySem.Spec PyProof.Rows
structure Room(k:Nat)(A:Around):Prop where
 hd:A.handled=none
 dp:A.depth + 3 * k + 5 < recursionLimit
 un:A.units + 16 * k + 200 < cLine
theorem Room.mono{j k:Nat}{A:Around}(r:Room k A)(h:j<=k):Room j A:=⟨r.hd,by have:=r.dp;omega,by have:=r.un;omega⟩
theorem Room.deeper{k:Nat}{A:Around}(r:Room (k + 1) A)(env:Env):Room k (A.deeper env) :=
 ⟨r.hd,by have:=r.dp;show A.depth + 1 + 3 * k + 5 < _;omega,by have:=r.un;show A.units + 3 + 16 * k + 200 < _;omega⟩
theorem Room.in1{k:Nat}{A:Around}(r:Room (k + 1) A):Room k A.in1 :=
 ⟨r.hd,by have:=r.dp;show A.depth + 3 * k + 5 < _;omega,by have:=r.un;show A.units + 1 + 16 * k + 200 < _;omega⟩
theorem make_depth{A:Around}{C:Addr}{us:List Value}{kw:List (Str×Value)}:(A.under (.builtin "type.__call__" ⟨.ref C::us,kw⟩)).depth=A.depth + 1:=by
 first|rfl|simp[Around.under,Code.weight,Code.isCreation,Code.isGuard,Code.isCaller,Code.frames,Code.isFrame,guardIds]
theorem make_units{A:Around}{C:Addr}{us:List Value}{kw:List (Str×Value)}:(A.under (.builtin "type.__call__" ⟨.ref C::us,kw⟩)).units=A.units + 1:=by
 first|rfl|simp[Around.under,Code.cUnits,Code.frames,Code.isFrame]
theorem Room.make{k:Nat}{A:Around}(r:Room (k + 1) A)(C:Addr)(us:List Value)(kw:List (Str×Value)):Room k (A.under (.builtin "type.__call__" ⟨.ref C::us,kw⟩)) :=
 ⟨r.hd,by have:=r.dp;rw[make_depth];omega,by have:=r.un;rw[make_units];omega⟩
theorem Room.depth{k:Nat}{A:Around}(r:Room k A):A.depth < recursionLimit:=by have:=r.dp;omega
theorem Room.units{k:Nat}{A:Around}(r:Room k A):A.units + 64 < cLine:=by have:=r.un;omega
def tNil:TA:=fun _ H Q=>Q [] H
def tCons(ta:TE)(tr:TA):TA:=fun σ H Q=>ta σ H fun x H1=>tr σ H1 fun xs H2=>Q (x::xs) H2
section
variable {X:Cx} {e:Expr} {es:List Expr} {te:TE} {t:TA} {pos:Pos}
theorem pa_nil:PA X [] tNil:=fun _ _ _ _ H Q I h=>Calls.spliced_nil ⟨[],H,I,.nil,h⟩
theorem pa_cons(ha:PE X e te)(hr:PA X es t)(hs:starEach (e::es) X.env=(false,eval e X.env)::starEach es X.env:=by rfl):PA X (e::es) (tCons te t):=by
 intro pos pins s σ H Q I h
 rw[hs]
 show wpAny _ _ (spliced ((false,eval e X.env)::backTo pos (starEach es X.env))) _ _ s
 refine Calls.spliced_cons (thn (ha pins s σ H _ I h) fun u s1 ⟨x,H1,I1,r1,q1⟩=>?_)
 exact thn (hr pos pins s1 σ H1 _ I1 q1) fun us s2 ⟨xs,H2,I2,r2,q2⟩=>⟨x::xs,H2,I2,.cons r1 r2,q2⟩
def tTup(t:TA):TE:=fun σ H Q=>t σ H fun xs H1=>xs.length<=sizeLine/\∀p,H1 p=none->Q (.ref p) (upd H1 p (.tup xs))
def tLst(t:TA):TE:=fun σ H Q=>t σ H fun xs H1=>xs.length<=sizeLine/\∀p,H1 p=none->Q (.ref p) (upd H1 p (.lst xs))
theorem pe_tup{x1}(h:PA X es t):PE X (.Tuple es x1 pos) (tTup t):=by
 intro pins s σ H Q I hq
 refine wpAny_Tuple_spliced (thn (h pos pins s σ H _ I hq) fun us s1 ⟨xs,H1,I1,r,z,q⟩=>⟨by rw[← r.length];exact z,?_⟩)
 have hf:H1 s1.heap.objs.size=none:=I1.hok.fresh (Nat.le_refl _)
 refine⟨.ref s1.heap.objs.size,upd H1 s1.heap.objs.size (.tup xs),I1.laid (t':=s1.toks) (fun b u e=>Heap.get?_push_of_some _ e) (Nat.le_refl _) ?_,rfl,q _ hf⟩
 exact⟨z,us,r,⟨_,Heap.get?_push_size _ rfl,rfl,_,rfl⟩⟩
theorem pe_lst(h:PA X es t):PE X (.List es pos) (tLst t):=by
 intro pins s σ H Q I hq
 refine wpAny_List_spliced (thn (h pos pins s σ H _ I hq) fun us s1 ⟨xs,H1,I1,r,z,q⟩=>⟨by rw[← r.length];exact z,?_⟩)
 have hf:H1 s1.heap.objs.size=none:=I1.hok.fresh (Nat.le_refl _)
 refine⟨.ref s1.heap.objs.size,upd H1 s1.heap.objs.size (.lst xs),I1.laid (t':=s1.toks) (fun b u e=>Heap.get?_push_of_some _ e) (Nat.le_refl _) ?_,rfl,q _ hf⟩
 exact⟨z,us,0,r,Heap.get?_push_size _ rfl⟩
end
abbrev Sp:=List V->Hp->VK->XK->Prop
abbrev CXT:=List Env->Hp->Shared->XK->Value->Shared->Prop
structure Env0(P:Program)(w:World)(K:PySem.W.Frag)(mg:Str->Option Value)(base:Heap)(A:Around)(outer:List Env)(s:Shared)(H:Hp):Prop where
 frames:A.frames=some outer
 mod:Mod K mg base
 bs:∀b o,base.get? b=some o->s.heap.get? b=some o/\H b=none
 bsz:base.objs.size<=s.heap.objs.size
 funs:s.heap.FunFrames base outer
 frf:∀b∈frs outer,H b=none
 hok:HOk P w H s.heap
 bare:AllBare s.gens
def CE(outer:List Env)(P:Program)(w:World)(H:Hp)(s:Shared)(Q:VK)(u:Value)(s':Shared):Prop :=
 ∃v H',s'.os=s.os/\AllBare s'.gens/\Un (frs outer) [] H H' s.heap s'.heap/\HOk P w H' s'.heap/\RelV v u/\Q v H'
def CR(CX:CXT)(outer:List Env)(P:Program)(w:World)(H:Hp)(s:Shared)(Q:VK)(E:XK)(r:Result)(s':Shared):Prop :=
 match r with
 | .ok (.ret u)=>CE outer P w H s Q u s'
 | .ok _=>False
 | .error e=>CX outer H s E e s'
structure FnOk(P:Program)(w:World)(K:PySem.W.Frag)(mg:Str->Option Value)(base:Heap)(CX:CXT)(k:Nat)(f:Addr)(fd:FuncData)(ps:List Str)(sp:Sp):Prop where
 len:∀vs H Q E,sp vs H Q E->vs.length=ps.length
 run:∀(A:Around)(outer:List Env)(s:Shared)(H:Hp)(args:Args)(us:List Value)(vs:List V)(Q:VK)(E:XK),Room k A->Env0 P w K mg base A outer s H->BindsTo s fd args (ps.zip us)->Vals vs us->sp vs H Q E →
  codeAny (model P w) A (.call (.ref f) args) (CR CX outer P w H s Q E) s
theorem FnOk.mono{P:Program}{w:World}{K:PySem.W.Frag}{mg:Str->Option Value}{base:Heap}{CX:CXT}{j k:Nat}{f:Addr}{fd:FuncData}{ps:List Str}{sp:Sp}(F:FnOk P w K mg base CX j f fd ps sp)(h:j<=k) :
  FnOk P w K mg base CX k f fd ps sp:=⟨F.len,fun A outer s H args us vs Q E hr=>F.run A outer s H args us vs Q E (hr.mono h)⟩
theorem Env0.make{P:Program}{w:World}{K:PySem.W.Frag}{mg:Str->Option Value}{base:Heap}{A:Around}{outer:List Env}{s:Shared}{H:Hp}(e:Env0 P w K mg base A outer s H)(C:Addr)(us:List Value)(kw:List (Str×Value)) :
  Env0 P w K mg base (A.under (.builtin "type.__call__" ⟨.ref C::us,kw⟩)) outer s H:=⟨by first|exact e.frames|(simpa [Around.under,Code.envs,Code.isFrame,pushEnvs] using e.frames),e.mod,e.bs,e.bsz,e.funs,e.frf,e.hok,e.bare⟩
theorem Env0.in1{P:Program}{w:World}{K:PySem.W.Frag}{mg:Str->Option Value}{base:Heap}{A:Around}{outer:List Env}{s:Shared}{H:Hp}(e:Env0 P w K mg base A outer s H) :
  Env0 P w K mg base A.in1 outer s H:=⟨e.frames,e.mod,e.bs,e.bsz,e.funs,e.frf,e.hok,e.bare⟩
section
variable {X:Cx} {pins:List (Addr×Obj)} {σ:St} {H:Hp} {s s':Shared}
theorem Inv.env0(I:Inv X pins σ H s):Env0 X.prog X.w X.K X.mg X.base X.A X.stack s H :=
 ⟨I.ok.frames,I.ok.mod,I.bs,Nat.le_trans I.ok.bsz I.sz,I.stack,I.stkFree,I.hok,I.bare⟩
theorem Inv.after{Q:VK}{u:Value}(I:Inv X pins σ H s)(h:CE X.stack X.prog X.w H s Q u s'):EP X pins σ Q u s':=by
 obtain⟨v,H',os,bare,un,hok,r,q⟩:=h
 obtain⟨hh,g,d,t,os'⟩:=s'
 obtain rfl:os'=s.os:=os
 exact⟨v,H',I.call (h':=hh) (g':=g) (d':=d) (t':=t) (ch:=[]) un hok bare (fun b z=>absurd z (by simp)),r,q⟩
end
def tCall(sp:Sp)(dvs:List V)(E:XK)(t:TA):TE:=fun σ H Q=>t σ H fun vs H1=>sp (vs++dvs) H1 Q E
def Binds(K:PySem.W.Frag)(fd:FuncData)(ps:List Str)(ds:List Value):Prop :=
 ∀(s:Shared)(us:List Value),K.In s.heap->(us++ds).length=ps.length->BindsTo s fd ⟨us,[]⟩ (ps.zip (us++ds))
theorem Binds.all{K:PySem.W.Frag}{fd:FuncData}{ps:List Str}(h:∀us:List Value,us.length=ps.length->bindArgs fd ⟨us,[]⟩=pure (ps.zip us)):Binds K fd ps []:=fun s us _ hl=>by
 rw[List.append_nil]at hl ⊢
 exact .of_eq (h us hl)
def Passes(CX:CXT)(X:Cx)(E:XK):Prop:=∀(pins:List (Addr×Obj))(σ:St)(H:Hp)(s:Shared)(e:Value)(s':Shared),Inv X pins σ H s->CX X.stack H s E e s'->X.xe e s'
section
variable {X:Cx} {CX:CXT} {k:Nat} {f C:Addr} {fd:FuncData} {ps:List Str} {sp:Sp} {dvs:List V} {ds:List Value} {E:XK} {x m:Str} {p pos apos:Pos} {e o:Expr} {es:List Expr} {ta:TE} {t:TA}
theorem run_fn{pins:List (Addr×Obj)}{σ:St}{H:Hp}{s:Shared}{Q:VK}{us:List Value}{vs:List V}(F:FnOk X.prog X.w X.K X.mg X.base CX k f fd ps sp)(hr:Room k X.A)(hb:Binds X.K fd ps ds)(hd:Vals dvs ds)(hx:Passes CX X E)
  (I:Inv X pins σ H s) (r:Vals vs us) (h:sp (vs++dvs) H Q E):wpAny (model X.prog X.w) X.A (call (.ref f) us) (EP X pins σ Q) X.xe s:=by
 have r2:Vals (vs++dvs) (us++ds):=r.append hd
 have hl:(us++ds).length=ps.length:=by rw[← r2.length];exact F.len _ _ _ _ h
 refine wpAny_call (codeAny_mono (F.run X.A X.stack s H ⟨us,[]⟩ (us++ds) (vs++dvs) Q E hr I.env0 (hb s us I.kIn hl) r2 h) fun r s' hq=>?_)
 cases r with
 | error e=>exact hx pins σ H s e s' I hq
 | ok fl =>
  cases fl with
  | ret u=>exact I.after hq
  | next=>exact False.elim hq
  | brk=>exact False.elim hq
  | cont=>exact False.elim hq
theorem pe_call(F:FnOk X.prog X.w X.K X.mg X.base CX k f fd ps sp)(hr:Room k X.A)(hg:Gl X x)(hm:X.mg x=some (.ref f))(hk:PySem.W.keepIn X.K (.ref f)=true)(hb:Binds X.K fd ps ds)(hd:Vals dvs ds)(hx:Passes CX X E)
  (ha:PA X (e::es) t) (hdb:(x==("__debug__" : Str))=false:=by decide) (he:starEach (e::es) X.env=(false,eval e X.env)::starEach es X.env:=by rfl) (hpl:(backTo pos (starEach es X.env)).any (·.1)=false:=by rfl) :
  PE X (.Call (.Name x p) (e::es) [] pos) (tCall sp dvs E t):=by
 intro pins s σ H Q I h
 refine wpAny_Call_Name_kw (ld_glob I hg hm ?_ hdb)
 refine PySem.W.callWith_K (h₀:=X.base) I.ok.mod.kin hk (thn (ha pos pins s σ H _ I h) fun us s1 ⟨vs,H1,I1,r,q⟩=>⟨I1.kIn,?_⟩) he hpl
 exact run_fn F hr hb hd hx I1 r q
structure Mk(K:PySem.W.Frag)(C f:Addr):Prop where
 makes:PySem.W.makesIn K C=true
 init:PySem.W.findIn K (.ref C) "__init__" = some (some (.ref f))
 fn:PySem.W.isFn K (.ref f)=true
 kp:PySem.W.keepIn K (.ref C)=true
end
section
variable {X:Cx} {CX:CXT} {k:Nat} {f C:Addr} {fd:FuncData} {ps ks:List Str} {sp:Sp} {E:XK} {x m:Str} {p pos apos kpos:Pos} {e o:Expr} {es:List Expr} {kws:List Keyword} {te ta:TE} {t tk:TA} {nm:Option Str}
structure KBinds(K:PySem.W.Frag)(fd:FuncData)(ps ks:List Str)(g:List Value->List Value->List Value)(gV:List V->List V->List V):Prop where
 to:∀(s:Shared)(us ws:List Value),K.In s.heap->(g us ws).length=ps.length->BindsTo s fd ⟨us,ks.zip ws⟩ (ps.zip (g us ws))
 rel:∀{vs:List V}{us:List Value}{zs:List V}{ws:List Value},Vals vs us->Vals zs ws->Vals (gV vs zs) (g us ws)
variable {g:List Value->List Value->List Value} {gV:List V->List V->List V}
end
structure FnScope(N P:List Str)(sc:Scope):Prop where
 kind:sc.kind=.function
 co:sc.isCoroutine=false
 gen:sc.isGenerator=false
 nd:N.Nodup
 pre:N.take P.length=P
 par:∀x∈P,sc.names.lookup x=some .local∨sc.names.lookup x=some .cell
 nofree:∀y∈sc.names,y.2 ≠ .free
theorem bindL_out{kindOf:Str->Option NameKind}{x:Str}:∀{binds:List (Str×Value)}{m:Str->Option Value},(∀v,(x,v)∉binds)->bindL kindOf binds m x=m x
 | [],_,_=>rfl
 | (n,v)::r,m,h=>by
  unfold bindL
  rw[bindL_out fun w hw=>h w (List.mem_cons_of_mem _ hw)]
  split
  ·have:x≠n:=by rintro rfl;exact h v List.mem_cons_self
   simp[this]
  ·rfl
theorem bindC_out{kindOf:Str->Option NameKind}{x:Str}:∀{binds:List (Str×Value)}{m:Str->Option Value},(∀v,(x,v)∉binds)->bindC kindOf binds m x=m x
 | [],_,_=>rfl
 | (n,v)::r,m,h=>by
  unfold bindC
  rw[bindC_out fun w hw=>h w (List.mem_cons_of_mem _ hw)]
  split
  ·rfl
  ·have:x≠n:=by rintro rfl;exact h v List.mem_cons_self
   simp[this]
theorem bindL_get{kindOf:Str->Option NameKind}{x:Str}{v:Value}:∀{P:List Str}{vs:List Value}{i:Nat}{m:Str->Option Value},P.Nodup->P[i]?=some x->vs[i]?=some v->kindOf x=some .local →
  bindL kindOf (P.zip vs) m x=some v
 | [],_,_,_,_,h,_,_=>by simp at h
 | _::_,[],_,_,_,_,h,_=>by simp at h
 | p::P,w::vs,0,m,nd,h1,h2,hk=>by
  simp at h1 h2;subst h1;subst h2
  show bindL kindOf ((p,w)::P.zip vs) m p=_
  unfold bindL
  rw[bindL_out fun v hv=>(List.nodup_cons.mp nd).1 (List.of_mem_zip hv).1,if_pos hk]
  simp
 | p::P,w::vs,i + 1,m,nd,h1,h2,hk=>by
  show bindL kindOf ((p,w)::P.zip vs) m x=_
  unfold bindL
  exact bindL_get (i:=i) (List.nodup_cons.mp nd).2 (by simpa using h1) (by simpa using h2) hk
theorem bindC_get{kindOf:Str->Option NameKind}{x:Str}{v:Value}:∀{P:List Str}{vs:List Value}{i:Nat}{m:Str->Option Value},P.Nodup->P[i]?=some x->vs[i]?=some v->kindOf x≠some .local →
  bindC kindOf (P.zip vs) m x=some v
 | [],_,_,_,_,h,_,_=>by simp at h
 | _::_,[],_,_,_,_,h,_=>by simp at h
 | p::P,w::vs,0,m,nd,h1,h2,hk=>by
  simp at h1 h2;subst h1;subst h2
  show bindC kindOf ((p,w)::P.zip vs) m p=_
  unfold bindC
  rw[bindC_out fun v hv=>(List.nodup_cons.mp nd).1 (List.of_mem_zip hv).1,if_neg hk]
  simp
 | p::P,w::vs,i + 1,m,nd,h1,h2,hk=>by
  show bindC kindOf ((p,w)::P.zip vs) m x=_
  unfold bindC
  exact bindC_get (i:=i) (List.nodup_cons.mp nd).2 (by simpa using h1) (by simpa using h2) hk
def start(N:List Str)(vs:List V):St:=vs.map some++List.replicate (N.length - vs.length) none
def cxOf(CX:CXT)(P:Program)(w:World)(K:PySem.W.Frag)(mg:Str->Option Value)(base:Heap)(N:List Str)(qual:Str)(scope:Scope)(f:Addr)(cd:Value)(A:Around)(outer:List Env)(s:Shared)(H:Hp)(E:XK):Cx where
 prog:=P
 w:=w
 K:=K
 mg:=mg
 base:=base
 A:=A.deeper (envOfC qual scope s.heap.objs.size f cd)
 N:=N
 s₀:=s
 H₀:=H
 env:=envOfC qual scope s.heap.objs.size f cd
 outer:=outer
 stack:=envOfC qual scope s.heap.objs.size f cd::outer
 ex:=[]
 calm:=true
 fn:=fun _=>true
 pn:=[]
 xe:=fun e s'=>wpAny (model P w) (A.deeper (envOfC qual scope s.heap.objs.size f cd)) (leaving (envOfC qual scope s.heap.objs.size f cd) e) (fun _ s''=>CX outer H s E e s'') (fun e' s''=>CX outer H s E e' s'') s'
theorem cell_has{sc:Scope}{n:Nat}{x:Str}(h:sc.names.lookup x=some .cell):∃c,(cellsFrom n sc.names []).lookup x=some c:=by
 have q:=PySem.W.cellsFrom_some sc.names n [] (.inl h)
 exact Option.isSome_iff_exists.mp q
theorem inv_start{CX:CXT}{P:Program}{w:World}{K:PySem.W.Frag}{mg:Str->Option Value}{base:Heap}{N ps:List Str}{qual:Str}{scope:Scope}{f:Addr}{cd:Value}{A:Around}{outer:List Env}{s s1:Shared}{H:Hp}{E:XK}{us:List Value}{vs:List V}
  (S:FnScope N ps scope) (hd:A.handled=none) (e0:Env0 P w K mg base A outer s H) (hl:vs.length=ps.length) (r:Vals vs us)
  (x:InCallC s s.heap.objs.size (bindL (envOfC qual scope s.heap.objs.size f cd).kindOf (ps.zip us) fun _=>none) (cellsFrom (s.heap.objs.size + 1) scope.names []) (bindC (envOfC qual scope s.heap.objs.size f cd).kindOf (ps.zip us) fun _=>none) s1) :
  Inv (cxOf CX P w K mg base N qual scope f cd A outer s H E) [] (start N vs) H s1:=by
 have hpl:ps.length<=N.length:=by have:=congrArg List.length S.pre;rw[List.length_take]at this;omega
 obtain⟨h1,tk,rfl,hk⟩:=x.done
 have noA:∀b:Addr,b∉(cxOf CX P w K mg base N qual scope f cd A outer s H E).ex:=fun b z=>absurd (show b∈([]:List Addr) from z) (by simp)
 refine⟨⟨e0.mod,S.kind,rfl,rfl,Nat.le_refl _,fun y z c h1 h2=>?_,fun y hy=>?_,fun y c _ h=>?_,fun _=>hd,Around.frames_deeper e0.frames,.inr ⟨rfl,rfl⟩,fun b z=>absurd z (noA b),e0.bs,e0.bsz,fun b _ _=>noA b,fun b z=>absurd z (noA b),e0.funs,e0.frf⟩,
  rfl,e0.bare,Un.kept hk,⟨_,x.toInCall.ns,fun i y v h1 h2 h3=>?_⟩,fun y c h=>⟨_,x.cell y c h⟩,e0.hok.fresh (Nat.le_refl _),fun y c h=>?_,fun p hp=>absurd (show p∈([]:List (Addr×Obj)) from hp) (by simp),e0.hok.kept hk,?_⟩
 ·exact name_of_addr x.apart (PySem.mem_of_lookup h1) (PySem.mem_of_lookup h2)
 ·have hy:scope.names.lookup y=some .cell∨scope.names.lookup y=some .free:=hy
  rcases hy with hy|hy
  ·exact cell_has hy
  ·exact absurd rfl (S.nofree _ (PySem.mem_of_lookup hy))
 ·exact Nat.le_of_lt (x.above y c (PySem.mem_of_lookup h))
 ·have hi:i < vs.length:=by
   unfold start at h2
   by_cases hi:i < vs.length
   ·exact hi
   ·rw[List.getElem?_append_right (by simpa using hi)]at h2
    rw[List.getElem?_replicate]at h2
    split at h2<;>cases h2
  have ha:vs[i]?=some v:=by
   unfold start at h2
   rw[List.getElem?_append_left (by simpa using hi),List.getElem?_map]at h2
   cases e:vs[i]? with
   | none=>rw[e]at h2;cases h2
   | some a=>rw[e]at h2;cases h2;rfl
  obtain⟨u,hu,rv⟩:=r.get ha
  have hp:ps[i]?=some y:=by
   rw[← S.pre,List.getElem?_take_of_lt (by omega)];exact h1
  have ndP:ps.Nodup:=by rw[← S.pre];exact S.nd.sublist (List.take_sublist _ _)
  refine⟨u,rv,?_⟩
  rcases S.par y (List.mem_of_getElem? hp) with k|k
  ·exact .inl ⟨k,bindL_get ndP hp hu k⟩
  ·obtain⟨c,e⟩:=cell_has (n:=s.heap.objs.size + 1) k
   refine .inr ⟨.inl k,c,e,?_⟩
   have q:=x.cell y c e
   rw[bindC_get ndP hp hu (by show scope.names.lookup y≠_;rw[k];decide)]at q
   exact q
 ·exact e0.hok.fresh (Nat.le_of_lt (x.above y c (PySem.mem_of_lookup h)))
 ·unfold start
  show _=N.length
  rw[List.length_append,List.length_map,List.length_replicate]
  omega
theorem fn_of{CX:CXT}{P:Program}{w:World}{K:PySem.W.Frag}{mg:Str->Option Value}{base:Heap}{k:Nat}{f:Addr}{name qual:Str}{params:Arguments}{body:List Stmt}{scope:Scope}{dV kV doc pm cdv ct oc:Value}{an od:Option Addr}
  {osl:Array (Option Value)} {N ps:List Str} {sp:Sp} (lk:K.lookup f=some ⟨oc,od,.func (PySem.W.fnOf name qual params body scope dV kV doc pm an cdv ct),osl⟩) (hcd:PySem.W.codeIn K cdv qual=true) (S:FnScope N ps scope)
  (len:∀vs H Q E,sp vs H Q E->vs.length=ps.length)
  (hbody:∀(A:Around)(outer:List Env)(s:Shared)(H:Hp)(vs:List V)(Q:VK)(E:XK),Room k (A.deeper (envOfC qual scope s.heap.objs.size f cdv))->sp vs H Q E →
   ∃t,PSs (cxOf CX P w K mg base N qual scope f cdv A outer s H E) body t/\t {nx:=fun _ H'=>Q .non H',rt:=Q} (start N vs) H) :
  FnOk P w K mg base CX (k + 1) f (PySem.W.fnOf name qual params body scope dV kV doc pm an cdv ct) ps sp:=by
 refine⟨len,fun A outer s H args us vs Q E hr e0 hb r hsp=>?_⟩
 have hl:=len _ _ _ _ hsp
 have KX:K.In s.heap:=e0.mod.kin.keeps fun b o e=>(e0.bs b o e).1
 have lim:s.heap.NoLimit:=e0.mod.nolimit.keeps fun b o e=>(e0.bs b o e).1
 have hkind:∀y∈ps.zip us,scope.names.lookup y.1=some .local∨(scope.names.lookup y.1=some .cell/\((cellsFrom (s.heap.objs.size + 1) scope.names []).lookup y.1).isSome=true):=fun ⟨n,v⟩ hy=>by
  rcases S.par n (List.of_mem_zip hy).1 with q|q
  ·exact .inl q
  ·exact .inr ⟨q,PySem.W.cellsFrom_some _ _ _ (.inl q)⟩
 refine codeAny_call_function hr.depth (KX _ _ lk) rfl S.co S.gen rfl (PySem.W.codeRec_of KX hcd) (hb _ _ _ _ ?_)
 refine wpAny_newFunctionEnv_cells S.kind hkind fun env he s1 x=>?_
 subst he
 refine⟨lim.keeps x.toInCall.keep,codeAny_func ?_⟩
 obtain⟨t,ht,hq⟩:=hbody A outer s H vs Q E (hr.deeper _) hsp
 have I:Inv (cxOf CX P w K mg base N qual scope f cdv A outer s H E) [] (start N vs) H s1:=inv_start S hr.hd e0 hl r x
 refine wpAny_mono (ht [] s1 (start N vs) H _ I hq) (fun fl s' hs=>?_) fun e s' hs=>hs
 have fin:∀{σ':St}{H':Hp}{v:V}{u:Value},Inv (cxOf CX P w K mg base N qual scope f cdv A outer s H E) [] σ' H' s'->RelV v u->Q v H'->CE outer P w H s Q u s' :=
  fun {σ' H' v u} J rv q=>⟨v,H',J.os,J.bare,J.base,J.hok,rv,q⟩
 cases fl with
 | ret u =>
  obtain⟨v,σ',H',J,rv,q⟩:=hs
  exact fin J rv q
 | next =>
  obtain⟨σ',H',J,q⟩:=hs
  exact fin (v:=V.non) (u:=Value.none) J rfl q
 | brk =>
  obtain⟨_,_,_,q⟩:=hs
  exact False.elim q
 | cont =>
  obtain⟨_,_,_,q⟩:=hs
  exact False.elim q
end L2
namespace L2
open PySem PySem.Spec PyProof.Rows
section
variable {X:Cx} {x:Str} {p pos:Pos} {e:Expr} {es:List Expr} {t:TA} {id T:String} {r:List V->Hp->VK->Prop}
def tCB(r:List V->Hp->VK->Prop)(t:TA):TE:=fun σ H Q=>t σ H fun vs H1=>r vs H1 Q
theorem pe_callB(hc:CallR X (.builtin id) r)(hg:Gl X x)(hm:X.mg x=none)(hv:bootBuiltins x=some (.builtin id))(ha:PA X (e::es) t) (hn:x ≠ "__name__" := by decide) (hdb:(x==("__debug__" : Str))=false:=by decide)
  (he:starEach (e::es) X.env=(false,eval e X.env)::starEach es X.env:=by rfl) (hpl:(backTo pos (starEach es X.env)).any (·.1)=false:=by rfl):PE X (.Call (.Name x p) (e::es) [] pos) (tCB r t):=by
 intro pins s σ H Q I h
 refine wpAny_Call_Name_kw (ld_blt I hg hm hv ?_ hn hdb)
 exact PyProof.Rows.callWith_builtin1 (thn (ha pos pins s σ H _ I h) fun us s1 ⟨vs,H1,I1,r1,q1⟩=>hc pins s1 σ H1 vs us Q I1 r1 q1) he hpl
theorem pe_callTy(hc:CallR X (.type T) r)(hg:Gl X x)(hm:X.mg x=none)(hv:bootBuiltins x=some (.type T))(ha:PA X (e::es) t) (hn:x ≠ "__name__" := by decide) (hdb:(x==("__debug__" : Str))=false:=by decide)
  (he:starEach (e::es) X.env=(false,eval e X.env)::starEach es X.env:=by rfl) (hpl:(backTo pos (starEach es X.env)).any (·.1)=false:=by rfl):PE X (.Call (.Name x p) (e::es) [] pos) (tCB r t):=by
 intro pins s σ H Q I h
 refine wpAny_Call_Name_kw (ld_blt I hg hm hv ?_ hn hdb)
 exact PyProof.Rows.callWith_type1 (thn (ha pos pins s σ H _ I h) fun us s1 ⟨vs,H1,I1,r1,q1⟩=>hc pins s1 σ H1 vs us Q I1 r1 q1) he hpl
end
end L2
namespace HT
open PySem PyProof.Rows
section
open PySem.SeqAt
open PySem.AutoSeq1 (wpAny_loadPart')
open PySem.MeetsSeq PySem.MeetsSeq2 PySem.MeetsSeq3
end
section
variable {prog:Program} {w:World} {A:Around} {E:Value->Shared->Prop} {s:Shared}
theorem cat_tup{t b:Addr}{vs ws:List Value}{Q:Value->Shared->Prop}(ht:IsTup s.heap t vs.toArray)(hb:IsTup s.heap b ws.toArray)(hv:vs≠[])
  (h1:ws=[]->Q (.ref t) s) (h2:ws≠[]->Q (.ref s.heap.objs.size) {s with heap:=s.heap.push {cls:=.type "tuple", data:=.seq (vs++ws).toArray} })
  (hsz:vs.length + ws.length<=sizeLine):wpAny (model prog w) A (binaryOp .Add (.ref t) (.ref b)) Q E s:=by
 obtain⟨⟨cls,dd,data,sl⟩,ho,hc,n,hd⟩:=id ht
 obtain⟨⟨cls2,dd2,data2,sl2⟩,ho2,hc2,n2,hd2⟩:=id hb
 simp only at hc hd hc2 hd2
 subst hc hd hc2 hd2
 have e:vs.toArray++ws.toArray=(vs++ws).toArray:=by simp
 by_cases hw:ws=[]
 ·exact concat_meets ⟨_,ho,rfl⟩ ⟨_,ho2,rfl⟩ noFill_tuple_add seq_tuple_add PySem.F.slot_tuple_add PySem.F.entry_tuple_add (PySem.F.args_tuple_add_2 _ _)
   (tuple_addW1 t b vs.toArray ws.toArray n n2 dd dd2 sl sl2 (by simpa using hv) (by simp[hw])) ⟨ho,ho2,h1 hw⟩
 ·refine concat_meets ⟨_,ho,rfl⟩ ⟨_,ho2,rfl⟩ noFill_tuple_add seq_tuple_add PySem.F.slot_tuple_add PySem.F.entry_tuple_add (PySem.F.args_tuple_add_2 _ _)
   (tuple_addW2 t b vs.toArray ws.toArray n n2 dd dd2 sl sl2 (by simpa using hv) (by simpa using hw) (by rw[List.size_toArray,List.size_toArray];exact hsz)) ⟨ho,ho2,?_⟩
  rw[e]
  exact h2 hw
def sIx(n d:Nat):Option Int->Nat
 | none=>d
 | some v=>if v < 0 then (v + (n:Int)).toNat else min v.toNat n
theorem sIx_none(n d:Nat):sIx n d none=d:=rfl
theorem sIx_nat(n d k:Nat):sIx n d (some (k:Int))=min k n:=by
 show (if (k:Int) < 0 then ((k:Int) + (n:Int)).toNat else min (k:Int).toNat n)=min k n
 rw[if_neg (by omega),Int.toNat_natCast]
theorem sIx_le(n d:Nat)(hd:d<=n)(o:Option Int):sIx n d o<=n:=by
 cases o with
 | none=>exact hd
 | some v =>
  show (if v < 0 then (v + (n:Int)).toNat else min v.toNat n)<=n
  by_cases hv:v < 0
  ·rw[if_pos hv];omega
  ·rw[if_neg hv];exact Nat.min_le_right _ _
theorem clip_eq(v:Int)(n d:Nat):(if v < 0 then max (v + (n:Int)) 0 else min v (n:Int))=((sIx n d (some v):Nat):Int):=by
 show (if v < 0 then max (v + (n:Int)) 0 else min v (n:Int))=(((if v < 0 then (v + (n:Int)).toNat else min v.toNat n):Nat):Int)
 by_cases hv:v < 0
 ·simp only[if_pos hv];omega
 ·simp only[if_neg hv];omega
theorem adjust_gen(lo hi:Option Int)(n:Nat):Builtin.Slice.sliceAdjust lo hi 1 (n:Int)=(((sIx n 0 lo:Nat):Int),((sIx n n hi:Nat):Int)):=by
 have h1:¬ ((1:Int) < 0):=by omega
 unfold Builtin.Slice.sliceAdjust
 simp only[h1,if_false]
 refine Prod.ext ?_ ?_
 ·cases lo with
  | none=>rfl
  | some v=>exact clip_eq v n 0
 ·cases hi with
  | none=>rfl
  | some v=>exact clip_eq v n n
theorem places_gen(i j:Nat):Builtin.Slice.slicePlaces (i:Int) (j:Int) 1=j - i:=by
 unfold Builtin.Slice.slicePlaces
 have h1:(1:Int) > 0:=by omega
 simp only[h1,if_true,Int.ediv_one]
 split<;>omega
theorem slicePart_{v:Value}{o:Option Int}{Q:Option Int->Shared->Prop}(p:IsPart v o)(h:Q o s):wpAny (model prog w) A (Builtin.Slice.slicePartIndex v) Q E s:=by
 cases p with
 | none=>exact slicePart_none h
 | int i t=>exact slicePart_int h
theorem sliceApplied_gen{sl:Addr}{vl vu:Value}{lo hi:Option Int}{n:Nat}{Q:Int×Int×Nat->Shared->Prop}(hs:s.heap.IsSliceOf sl vl vu .none)(pl:IsPart vl lo)(pu:IsPart vu hi)
  (h:Q (((sIx n 0 lo:Nat):Int),1,sIx n n hi - sIx n 0 lo) s):wpAny (model prog w) A (Builtin.Slice.sliceApplied (.ref sl) (pure (n:Int))) Q E s:=by
 obtain⟨os,hos,hcs,hds⟩:=id hs
 unfold Builtin.Slice.sliceApplied Builtin.Slice.sliceFields
 refine wpAny_bind (wpAny_bind (wpAny_field hos hds (x:=vl) rfl (wpAny_bind (wpAny_field hos hds (x:=vu) rfl (wpAny_bind (wpAny_field hos hds (x:=.none) rfl (wpAny_pure ?_)))))))
 refine wpAny_bind (slicePart_none ?_)
 show wpAny _ _ (if ((1:Int)==0)=true then _ else _) _ _ s
 rw[if_neg (by decide)]
 refine wpAny_bind (slicePart_ pl (wpAny_bind (slicePart_ pu (wpAny_bind (wpAny_pure ?_)))))
 show wpAny _ _ (match Builtin.Slice.sliceAdjust lo hi 1 (n:Int) with|(lo,hi)=>pure (lo,(1:Int),Builtin.Slice.slicePlaces lo hi 1)) _ _ s
 rw[adjust_gen lo hi n]
 show wpAny _ _ (pure (((sIx n 0 lo:Nat):Int),(1:Int),Builtin.Slice.slicePlaces ((sIx n 0 lo:Nat):Int) ((sIx n n hi:Nat):Int) 1)) _ _ s
 rw[places_gen]
 exact wpAny_pure h
theorem pick_gen(xs:Array Value)(i k:Nat):((List.range k).filterMap fun (m:Nat)=>xs[((i:Int) + (m:Int) * 1).toNat]?).toArray=((xs.toList.drop i).take k).toArray:=by
 have e:(fun (m:Nat)=>xs[((i:Int) + (m:Int) * 1).toNat]?)=fun m=>xs[i + m]?:=by
  funext m
  have:((i:Int) + (m:Int) * 1).toNat=i + m:=by omega
  rw[this]
 rw[e]
 have:=pick_run xs i k
 rw[List.filterMap_map]at this
 have e2:((fun x=>xs[x]?) ∘ fun x=>i + x)=fun m=>xs[i + m]?:=rfl
 rw[e2]at this
 rw[this]
theorem getItem_tuple_cut{t sl:Addr}{items:Array Value}{vl vu:Value}{lo hi:Option Int}{Q:Value->Shared->Prop}(ht:IsTup s.heap t items)(hs:s.heap.IsSliceOf sl vl vu .none)(pl:IsPart vl lo)(pu:IsPart vu hi)
  (hw:¬ (sIx items.size 0 lo=0/\sIx items.size items.size hi=items.size))
  (h:Q (.ref s.heap.objs.size) {s with heap:=s.heap.push {cls:=.type "tuple", data:=.seq ((items.toList.drop (sIx items.size 0 lo)).take (sIx items.size items.size hi - sIx items.size 0 lo)).toArray} })
  (hsz:items.size<=sizeLine):wpAny (model prog w) A (getItem (.ref t) (.ref sl)) Q E s:=by
 have htake:sizeOk (.seq ((items.toList.drop (sIx items.size 0 lo)).take (sIx items.size items.size hi - sIx items.size 0 lo)).toArray):=by
  show ((items.toList.drop (sIx items.size 0 lo)).take (sIx items.size items.size hi - sIx items.size 0 lo)).toArray.size<=sizeLine
  rw[List.size_toArray,List.length_take,List.length_drop,Array.length_toList]
  omega
 have hj:sIx items.size items.size hi<=items.size:=sIx_le _ _ (Nat.le_refl _) hi
 obtain⟨os,hos,hcs,hds⟩:=id hs
 have hTs:s.TypeIs (.ref sl) "slice" := ⟨os,hos,hcs⟩
 unfold getItem
 try with_reducible refine wpAny_holding ?_
 first|refine wpAny_bind (wpAny_pure ?_)|skip
 refine wpAny_bind (wpAny_sequenceKey ht.typeIs (by decide) ?_)
 refine wpAny_bind (wpAny_callSpecial?_slot (name:=Str.ofString "__getitem__") ht.typeIs PyProof.Rows.slot_tuple_getitem
  (wpAny_call_entry PyProof.Rows.slot_tuple_getitem ht.typeIs entry_tuple_getitem ?_ (args_tuple_getitem _ _)))
 show wpAny _ _ (Builtin.Tuple.tupleItemsOf (.ref t) >>= _) _ _ s
 refine wpAny_bind (tupleItemsOf_ ht ?_)
 refine wpAny_bind (wpAny_typeOf hTs ?_)
 rw[if_pos (by decide)]
 refine wpAny_bind (sliceApplied_gen hs pl pu ?_)
 have hno:¬ ((((sIx items.size 0 lo:Nat):Int)==0&&(1:Int)==1&&(sIx items.size items.size hi - sIx items.size 0 lo)==items.size)=true):=by
  intro q
  rw[Bool.and_eq_true,Bool.and_eq_true]at q
  have q1:((sIx items.size 0 lo:Nat):Int)=0:=eq_of_beq q.1.1
  have q2:sIx items.size items.size hi - sIx items.size 0 lo=items.size:=eq_of_beq q.2
  exact hw ⟨by omega,by omega⟩
 show wpAny _ _ (if (((sIx items.size 0 lo:Nat):Int)==0&&(1:Int)==1&&(sIx items.size items.size hi - sIx items.size 0 lo)==items.size)=true then _ else _) _ _ s
 rw[if_neg hno,pick_gen]
 first
  | exact wpAny_bind (m:=Builtin.Tuple.tupleExact _) (wpAny_newObj_type (wpAny_pure ⟨_,rfl,wpAny_pure h⟩) htake)
  | exact wpAny_bind (m:=Builtin.Tuple.tupleExact _) (wpAny_newObj_type (wpAny_bind (wpAny_pure (wpAny_pure ⟨_,rfl,wpAny_pure h⟩))) htake)
  | exact wpAny_bind (wpAny_bind (m:=Builtin.Tuple.tupleExact _) (wpAny_newObj_type (wpAny_pure (wpAny_pure ⟨_,rfl,wpAny_pure h⟩)) htake))
  | exact wpAny_bind (wpAny_bind (m:=Builtin.Tuple.tupleExact _) (wpAny_newObj_type (wpAny_pure ⟨_,rfl,wpAny_pure h⟩) htake))
end
end HT
namespace L2
open PySem PySem.Spec PyProof.Rows
abbrev TO:=St->Hp->(Option Int->Hp->Prop)->Prop
def PO(X:Cx)(e:Option Expr)(t:TO):Prop :=
 ∀(pins:List (Addr×Obj))(s:Shared)(σ:St)(H:Hp)(Q:Option Int->Hp->Prop),Inv X pins σ H s->t σ H Q →
  wpAny (model X.prog X.w) X.A (evalPart e X.env) (fun u s'=>∃o H',Inv X pins σ H' s'/\IsPart u o/\Q o H') X.xe s
def tNoPart:TO:=fun _ H Q=>Q none H
def tPart(t:TE):TO:=fun σ H Q=>t σ H fun x H1=>∃i,x=.int i/\Q (some i) H1
section
variable {X:Cx} {e:Expr} {te:TE} {lo hi:Option Expr} {tl th:TO} {pos p2:Pos}
theorem po_none:PO X none tNoPart:=by
 intro pins s σ H Q I h
 rw[evalPart_none]
 exact wpAny_pure ⟨none,H,I,.none,h⟩
theorem po_some(h:PE X e te):PO X (some e) (tPart te):=by
 intro pins s σ H Q I hw
 rw[evalPart_some]
 refine thn (h pins s σ H _ I hw) fun u s1 ⟨x,H1,I1,r1,q1⟩=>?_
 obtain⟨i,rfl,q⟩:=q1
 obtain⟨t,rfl⟩:=r1
 exact⟨some i,H1,I1,.int i t,q⟩
def SlR(X:Cx)(r:V->Option Int->Option Int->Hp->VK->Prop):Prop :=
 ∀(pins:List (Addr×Obj))(s:Shared)(σ:St)(H:Hp)(x:V)(v vl vu:Value)(lo hi:Option Int)(sl:Addr)(Q:VK),Inv X pins σ H s->RelV x v->s.heap.IsSliceOf sl vl vu .none->IsPart vl lo->IsPart vu hi->r x lo hi H Q →
  ∃T id,typeLookup (.type T) "__getitem__" = pure (some (.builtin id))/\s.TypeIs v T/\wpAny (model X.prog X.w) X.A (getItem v (.ref sl)) (EP X pins σ Q) X.xe s
theorem SlR.or{r r':V->Option Int->Option Int->Hp->VK->Prop}(h:SlR X r)(h':SlR X r'):SlR X (fun x lo hi H Q=>r x lo hi H Q∨r' x lo hi H Q):=by
 intro pins s σ H x v vl vu lo hi sl Q I rx hs pl pu q
 rcases q with q|q
 ·exact h pins s σ H x v vl vu lo hi sl Q I rx hs pl pu q
 ·exact h' pins s σ H x v vl vu lo hi sl Q I rx hs pl pu q
def tSl(r:V->Option Int->Option Int->Hp->VK->Prop)(te:TE)(tl th:TO):TE:=fun σ H Q=>te σ H fun x H1=>tl σ H1 fun l H2=>th σ H2 fun u H3=>r x l u H3 Q
theorem pe_slice{r:V->Option Int->Option Int->Hp->VK->Prop}(hr:SlR X r)(he:PE X e te)(hl:PO X lo tl)(hu:PO X hi th):PE X (.Subscript e (.Slice lo hi none p2) pos) (tSl r te tl th):=by
 intro pins s σ H Q I h
 refine Subscript_ (thn (he pins s σ H _ I h) fun v s1 ⟨x,H1,I1,r1,q1⟩=>?_)
 refine wpAny_Slice (thn (hl pins s1 σ H1 _ I1 q1) fun vl s2 ⟨l,H2,I2,pl,q2⟩=>thn (hu pins s2 σ H2 _ I2 q2) fun vu s3 ⟨u,H3,I3,pu,q3⟩=>?_)
 rw[evalPart_none]
 refine wpAny_pure ?_
 have I4:Inv X pins σ H3 {s3 with heap:=s3.heap.push {cls:=.type "slice", data:=.fields #[vl,vu,.none]} }:=I3.kept (t':=s3.toks) fun b ob q=>Heap.get?_push_of_some _ q
 obtain⟨T,id,hT,ht,hg⟩:=hr pins {s3 with heap:=s3.heap.push {cls:=.type "slice", data:=.fields #[vl,vu,.none]} } σ H3 x v vl vu l u s3.heap.objs.size Q I4 r1 (Heap.IsSliceOf.new ..) pl pu q3
 show wpAny (model X.prog X.w) X.A (subscriptTail e (.Slice lo hi none p2) v (.ref s3.heap.objs.size)) (EP X pins σ Q) X.xe {s3 with heap:=s3.heap.push {cls:=.type "slice", data:=.fields #[vl,vu,.none]} }
 exact tail_any (ops:=[.ref s3.heap.objs.size,v]) ht hT hg (by with_unfolding_all rfl)
def cutV(xs:List V)(lo hi:Option Int):List V:=(xs.drop (HT.sIx xs.length 0 lo)).take (HT.sIx xs.length xs.length hi - HT.sIx xs.length 0 lo)
theorem cutV_length(xs:List V)(lo hi:Option Int):(cutV xs lo hi).length<=xs.length:=by
 unfold cutV
 rw[List.length_take,List.length_drop]
 omega
def rSlT(K:PySem.W.Frag):V->Option Int->Option Int->Hp->VK->Prop:=fun x lo hi H Q=>∃a xs,x=.ref a/\SqT K H a xs ∧
 ¬ (HT.sIx xs.length 0 lo=0/\HT.sIx xs.length xs.length hi=xs.length)/\∀p,H p=none->Q (.ref p) (upd H p (.tup (cutV xs lo hi)))
theorem sl_tup:SlR X (rSlT X.K):=by
 intro pins s σ H x v vl vu lo hi sl Q I rx hs pl pu h
 obtain⟨a,xs,rfl,hx,hw,q⟩:=h
 cases rx
 obtain⟨its,r,ht,hz⟩:=I.tuple hx
 have hlen:its.toArray.size=xs.length:=by rw[List.size_toArray];exact r.length.symm
 refine⟨"tuple", _,PyProof.Rows.slot_tuple_getitem.lookup,ht.typeIs,?_⟩
 refine HT.getItem_tuple_cut ht hs pl pu (by rw[hlen];exact hw) ?_ (by rw[hlen];exact hz)
 rw[hlen]
 refine⟨.ref s.heap.objs.size,_,I.laid (t':=s.toks) (o:=.tup (cutV xs lo hi)) (fun b ob q=>Heap.get?_push_of_some _ q) (Nat.le_refl _) ?_,rfl,q _ (I.hok.fresh (Nat.le_refl _))⟩
 exact⟨Nat.le_trans (cutV_length xs lo hi) hz,_,(r.drop (HT.sIx xs.length 0 lo)).take (HT.sIx xs.length xs.length hi - HT.sIx xs.length 0 lo),IsTup.new _ _⟩
theorem Vals.nil_iff{xs:List V}{us:List Value}(r:Vals xs us):us=[] ↔ xs=[]:=by
 cases r with
 | nil=>simp
 | cons _ _=>simp
end
end L2
namespace L2
open PySem PySem.Spec PyProof.Rows
def ixN(n:Nat)(i:Int):Option Nat:=if 0<=i then (if i < n then some i.toNat else none) else if -(n:Int)<=i then some (i + n).toNat else none
def atI{α:Type}(xs:List α)(i:Int):Option α:=(ixN xs.length i).bind fun j=>xs[j]?
theorem ixN_seq{n:Nat}{i:Int}{j:Nat}(h:ixN n i=some j):seqIndex? i n=some j/\j < n /\ -(n:Int)<=i/\i < n:=by
 unfold ixN at h
 by_cases h0:0<=i
 ·rw[if_pos h0]at h
  by_cases h1:i < n
  ·rw[if_pos h1]at h
   have e:i.toNat=j:=Option.some.inj h
   exact⟨by rw[seqIndex_of h0 h1,e],by omega,by omega,h1⟩
  ·rw[if_neg h1]at h;cases h
 ·rw[if_neg h0]at h
  by_cases h1:-(n:Int)<=i
  ·rw[if_pos h1]at h
   have e:(i + n).toNat=j:=Option.some.inj h
   exact⟨by rw[seqIndex_neg (by omega) h1,e],by omega,h1,by omega⟩
  ·rw[if_neg h1]at h;cases h
theorem atI_get{α:Type}{xs:List α}{i:Int}{v:α}(h:atI xs i=some v):∃j,seqIndex? i xs.length=some j/\xs[j]?=some v/\j < xs.length /\ -(xs.length:Int)<=i/\i < xs.length:=by
 unfold atI at h
 cases e:ixN xs.length i with
 | none=>rw[e]at h;cases h
 | some j =>
  rw[e]at h
  obtain⟨h1,h2,h3,h4⟩:=ixN_seq e
  exact⟨j,h1,h,h2,h3,h4⟩
def PlainIx(b:Expr):Prop:=∀o i,subscripted b false o i=operate [o,i] (getItem o i)
def IxR(X:Cx)(r:R2):Prop :=
 ∀(value slice:Expr)(pins:List (Addr×Obj))(s:Shared)(σ:St)(H:Hp)(x y:V)(v u:Value)(Q:VK),Inv X pins σ H s->RelV x v->RelV y u->r x y H Q →
  subscripted slice false v u=operate [v,u] (getItem v u)->wpAny (model X.prog X.w) X.A (subscriptTail value slice v u) (EP X pins σ Q) X.xe s
def MtR(X:Cx)(id:String)(r:V->List V->Hp->VK->Prop):Prop :=
 ∀(pins:List (Addr×Obj))(s:Shared)(σ:St)(H:Hp)(x:V)(xs:List V)(v:Value)(us:List Value)(Q:VK),Inv X pins σ H s->RelV x v->Vals xs us->r x xs H Q →
  wpAny (model X.prog X.w) X.A (call (.builtin id) (v::us)) (EP X pins σ Q) X.xe s
section
variable {X:Cx} {a b:Expr} {ta tb:TE} {pos:Pos}
theorem IxR.or{r r':R2}(h:IxR X r)(h':IxR X r'):IxR X (fun x y H Q=>r x y H Q∨r' x y H Q):=by
 intro value slice pins s σ H x y v u Q I rx ry q hs
 rcases q with q|q
 ·exact h value slice pins s σ H x y v u Q I rx ry q hs
 ·exact h' value slice pins s σ H x y v u Q I rx ry q hs
theorem MtR.or{id:String}{r r':V->List V->Hp->VK->Prop}(h:MtR X id r)(h':MtR X id r'):MtR X id (fun x xs H Q=>r x xs H Q∨r' x xs H Q):=by
 intro pins s σ H x xs v us Q I rx rs q
 rcases q with q|q
 ·exact h pins s σ H x xs v us Q I rx rs q
 ·exact h' pins s σ H x xs v us Q I rx rs q
theorem pe_ix{r:R2}(hr:IxR X r)(ha:PE X a ta)(hb:PE X b tb)(hs:PlainIx b):PE X (.Subscript a b pos) (tOp r ta tb):=by
 intro pins s σ H Q I h
 exact Subscript_ (binT ha hb I h fun v u s2 x y H2 I2 rx ry q=>hr a b pins s2 σ H2 x y v u Q I2 rx ry q (hs _ _))
def rIxL(K:PySem.W.Frag):R2:=fun x y H Q=>∃p xs i v,x=.ref p/\y=.int i/\SqL K H p xs/\atI xs i=some v/\Q v H
def rIxT(K:PySem.W.Frag):R2:=fun x y H Q=>∃p xs i v,x=.ref p/\y=.int i/\SqT K H p xs/\atI xs i=some v/\Q v H
def rIxS:R2:=fun x y H Q=>∃z i c,x=.str z/\y=.int i/\z.length<=sizeLine/\atI z.cps.toList i=some c/\Q (.str ⟨#[c]⟩) H
theorem ix_list:IxR X (rIxL X.K):=by
 intro value slice pins s σ H x y v u Q I rx ry h hs
 obtain⟨p,xs,i,z,rfl,rfl,hq,he,q⟩:=h
 cases rx
 obtain⟨t,rfl⟩:=ry
 obtain⟨its,r,pl,hz⟩:=I.list hq
 obtain⟨j,h1,h2,h3,h4,h5⟩:=atI_get he
 obtain⟨w,ew,rw'⟩:=r.get h2
 have hl:=r.length
 have hn:=line63
 have fin:EP X pins σ Q w s:=⟨z,H,I,rw',q⟩
 by_cases h0:0<=i
 ·have hj:i.toNat=j:=by
   rw[seqIndex_of h0 h5]at h1
   exact Option.some.inj h1
  exact item_listR pl.isList h0 (by omega) (by rw[hj];simpa using ew) fin hs
 ·have hj:(i + (its.toArray.size:Int)).toNat=j:=by
   rw[seqIndex_neg (by omega) h4]at h1
   rw[List.size_toArray,← hl]
   exact Option.some.inj h1
  exact subscriptTail_builtinR (x:=w) pl.isList.typeIs slot_list_getitem.lookup
   (wpAny_getItem_list_neg (Q:=fun r s'=>r=w/\EP X pins σ Q r s') pl.isList (by omega) (by rw[List.size_toArray]<;>omega) (by omega) (by rw[hj];simpa using ew) ⟨rfl,fin⟩) hs
theorem ix_tup:IxR X (rIxT X.K):=by
 intro value slice pins s σ H x y v u Q I rx ry h hs
 obtain⟨p,xs,i,z,rfl,rfl,hq,he,q⟩:=h
 cases rx
 obtain⟨t,rfl⟩:=ry
 obtain⟨its,r,pl,hz⟩:=I.tuple hq
 obtain⟨j,h1,h2,h3,h4,h5⟩:=atI_get he
 obtain⟨w,ew,rw'⟩:=r.get h2
 have hl:=r.length
 have hn:=line63
 have fin:EP X pins σ Q w s:=⟨z,H,I,rw',q⟩
 exact subscriptTail_builtinR (x:=w) pl.typeIs slot_tuple_getitem.lookup
  (getItem_tuple (j:=j) (Q:=fun r s'=>r=w/\EP X pins σ Q r s') pl (by omega) (by omega) (by rw[List.size_toArray,← hl];exact h1) (by simpa using ew) ⟨rfl,fin⟩) hs
theorem ix_str:IxR X rIxS:=by
 intro value slice pins s σ H x y v u Q I rx ry h hs
 obtain⟨z,i,c,rfl,rfl,hz,he,q⟩:=h
 obtain⟨t,rfl⟩:=rx
 obtain⟨t',rfl⟩:=ry
 obtain⟨j,h1,h2,h3,h4,h5⟩:=atI_get he
 have hl:z.cps.toList.length=z.length:=by simp[Str.length]
 rw[hl]at h1 h4 h5
 have hn:=line63
 exact tail_any (typeIs_str s z t) slot_str_getitem.lookup (getItem_str (c:=c) (by
  have e1:decide (i < -(2 ^ 63:Int))=false:=decide_eq_false (by omega)
  have e2:decide (i ≥ 2 ^ 63)=false:=decide_eq_false (by omega)
  rw[e1,e2,Bool.or_false]) (by rw[h1];simpa using h2) ⟨.str ⟨#[c]⟩,H,I.tok _,⟨_,rfl⟩,q⟩) hs
def rIx(K:PySem.W.Frag):R2:=fun x y H Q=>rIxL K x y H Q∨rIxT K x y H Q∨rIxS x y H Q
theorem ix_seq:IxR X (rIx X.K):=ix_list.or (ix_tup.or ix_str)
theorem Inv.lst{pins:List (Addr×Obj)}{σ:St}{H:Hp}{s:Shared}{p:Addr}{xs:List V}(I:Inv X pins σ H s)(h:H p=some (.lst xs)) :
  ∃(its:List Value) (n:Nat),Vals xs its/\s.heap.get? p=some {cls:=.type "list", data:=.seq its.toArray n}/\xs.length<=sizeLine:=by
 obtain⟨z,its,n,r,e⟩:=I.hok p _ h
 exact⟨its,n,r,e,z⟩
theorem slice_bounds(lo hi:Option Int)(n:Nat):(sliceBounds lo hi none n).1=((HT.sIx n 0 lo:Nat):Int)/\(sliceBounds lo hi none n).2.1=((HT.sIx n n hi:Nat):Int)/\(sliceBounds lo hi none n).2.2=1:=by
 refine⟨?_,?_,rfl⟩
 ·cases lo with
  | none=>simp[sliceBounds,HT.sIx]
  | some i =>
   simp only[sliceBounds,HT.sIx,Option.getD_none,show (1:Int) > 0 by decide,if_true]
   by_cases h:i < 0
   ·simp only[h,if_true]<;>omega
   ·simp only[h,if_false]<;>omega
 ·cases hi with
  | none=>simp[sliceBounds,HT.sIx]
  | some i =>
   simp only[sliceBounds,HT.sIx,Option.getD_none,show (1:Int) > 0 by decide,if_true]
   by_cases h:i < 0
   ·simp only[h,if_true]<;>omega
   ·simp only[h,if_false]<;>omega
theorem slicePick_cut(its:List Value)(lo hi:Option Int):slicePick its.toArray lo hi none=((its.drop (HT.sIx its.length 0 lo)).take (HT.sIx its.length its.length hi - HT.sIx its.length 0 lo)).toArray:=by
 obtain⟨h1,h2,h3⟩:=slice_bounds lo hi its.toArray.size
 unfold slicePick
 rw[h1,h2,h3]
 simp only[sliceRange_one,pick_run,List.size_toArray]<;>rfl
def flatV:V->Bool
 | .non=>true
 | .bl _=>true
 | .int _=>true
 | .str _=>true
 | _=>false
def eqV:V->V->Bool
 | .non,.non=>true
 | .bl a,.bl b=>a==b
 | .bl a,.int b=>(if a then 1 else 0)==b
 | .int a,.bl b=>a==(if b then 1 else 0)
 | .int a,.int b=>a==b
 | .str a,.str b=>a==b
 | _,_=>false
theorem eqAt_V{A:Around}{s:Shared}{y x:V}{u v:Value}(ry:RelV y u)(rx:RelV x v)(fy:flatV y=true)(fx:flatV x=true):SeqAt.EqAt A s u v (eqV y x):=by
 cases y with
 | non =>
  cases ry
  cases x with
  | non=>cases rx;exact SeqAt.EqAt.same _
  | bl b=>cases rx;exact SeqAt.EqAt.none_bool b
  | int b=>obtain⟨t,rfl⟩:=rx;exact SeqAt.EqAt.none_int b t
  | str b=>obtain⟨t,rfl⟩:=rx;exact SeqAt.EqAt.none_str b t
  | _=>exact absurd (show false=true from fx) Bool.false_ne_true
 | bl a =>
  cases ry
  cases x with
  | non=>cases rx;exact SeqAt.EqAt.bool_none a
  | bl b=>cases rx;exact SeqAt.EqAt.bool_bool a b
  | int b=>obtain⟨t,rfl⟩:=rx;exact SeqAt.EqAt.bool_int a b t
  | str b=>obtain⟨t,rfl⟩:=rx;exact SeqAt.EqAt.bool_str a b t
  | _=>exact absurd (show false=true from fx) Bool.false_ne_true
 | int a =>
  obtain⟨t',rfl⟩:=ry
  cases x with
  | non=>cases rx;exact SeqAt.EqAt.int_none a t'
  | bl b=>cases rx;exact SeqAt.EqAt.int_bool a t' b
  | int b=>obtain⟨t,rfl⟩:=rx;exact SeqAt.EqAt.int_int a t' b t
  | str b=>obtain⟨t,rfl⟩:=rx;exact SeqAt.EqAt.int_str a t' b t
  | _=>exact absurd (show false=true from fx) Bool.false_ne_true
 | str a =>
  obtain⟨t',rfl⟩:=ry
  cases x with
  | non=>cases rx;exact SeqAt.EqAt.str_none a t'
  | bl b=>cases rx;exact SeqAt.EqAt.str_bool a t' b
  | int b=>obtain⟨t,rfl⟩:=rx;exact SeqAt.EqAt.str_int a t' b t
  | str b=>obtain⟨t,rfl⟩:=rx;exact SeqAt.EqAt.str_str a t' b t
  | _=>exact absurd (show false=true from fx) Bool.false_ne_true
 | _=>exact absurd (show false=true from fy) Bool.false_ne_true
def eqU(x:V)(u:Value):Bool:=match u with
 | .none=>eqV .non x
 | .bool b=>eqV (.bl b) x
 | .int i _=>eqV (.int i) x
 | .str z _=>eqV (.str z) x
 | _=>false
theorem eqU_of{x y:V}{u:Value}(r:RelV y u)(f:flatV y=true):eqU x u=eqV y x:=by
 cases y with
 | non=>cases r;rfl
 | bl b=>cases r;rfl
 | int i=>obtain⟨t,rfl⟩:=r;rfl
 | str z=>obtain⟨t,rfl⟩:=r;rfl
 | _=>exact absurd (show false=true from f) Bool.false_ne_true
theorem mem_eqAt{A:Around}{s:Shared}{x:V}{v:Value}(rx:RelV x v)(fx:flatV x=true):∀{xs:List V}{us:List Value},Vals xs us->xs.all flatV=true->∀u∈us,SeqAt.EqAt A s u v (eqU x u)
 | _,_,.nil,_=>fun u hu=>by cases hu
 | y::xs,u::us,.cons r t,f=>fun u' hu=>by
  rw[List.all_cons,Bool.and_eq_true]at f
  rcases List.mem_cons.mp hu with rfl|hu
  ·rw[eqU_of r f.1];exact eqAt_V r rx f.1 fx
  ·exact mem_eqAt rx fx t f.2 u' hu
theorem call_len_seq:CallR X (.builtin "len") (fun xs H Q=>∃p ys,xs=[.ref p]/\(SqL X.K H p ys∨SqT X.K H p ys)/\Q (.int ys.length) H):=by
 intro pins s σ H xs us Q I r h
 obtain⟨p,ys,rfl,hq,q⟩:=h
 obtain⟨u,rfl,rx⟩:=vals1 r
 cases rx
 have hn:=line63
 rcases hq with hq|hq
 ·obtain⟨its,r',pl,hz⟩:=I.list hq
  have hlen:=r'.length
  exact Calls.call_len_list pl.isList (by simp only[List.size_toArray]<;>omega) ⟨.int ys.length,H,I.tok _,⟨s.toks + 1,by rw[List.size_toArray,hlen]⟩,q⟩
 ·obtain⟨its,r',pl,hz⟩:=I.tuple hq
  have hlen:=r'.length
  exact len_tuple pl (by simp only[List.size_toArray]<;>omega) ⟨.int ys.length,H,I.tok _,⟨s.toks + 1,by rw[List.size_toArray,hlen]⟩,q⟩
theorem call_len_str:CallR X (.builtin "len") (fun xs H Q=>∃z,xs=[.str z]/\z.length<=sizeLine/\Q (.int z.length) H):=by
 intro pins s σ H xs us Q I r h
 obtain⟨z,rfl,hz,q⟩:=h
 obtain⟨u,rfl,t,rfl⟩:=vals1 r
 have hn:=line63
 exact len_str (by omega) ⟨.int z.length,H,I.tok _,⟨_,rfl⟩,q⟩
theorem CallR.or{f:Value}{r r':List V->Hp->VK->Prop}(h:CallR X f r)(h':CallR X f r'):CallR X f (fun xs H Q=>r xs H Q∨r' xs H Q):=by
 intro pins s σ H xs us Q I rs q
 rcases q with q|q
 ·exact h pins s σ H xs us Q I rs q
 ·exact h' pins s σ H xs us Q I rs q
theorem call_list_of:CallR X (.type "list") (fun xs H Q=>∃p ys,xs=[.ref p]/\(SqL X.K H p ys∨SqT X.K H p ys)/\∀l,H l=none->Q (.ref l) (upd H l (.lst ys))):=by
 intro pins s σ H xs us Q I r h
 obtain⟨p,ys,rfl,hq,q⟩:=h
 obtain⟨u,rfl,rx⟩:=vals1 r
 cases rx
 have fin:∀(its:List Value),Vals ys its->ys.length<=sizeLine->∀(h':Heap)(c':Nat),(∀b o',s.heap.get? b=some o'->h'.get? b=some o') →
   h'.get? s.heap.objs.size=some {cls:=.type "list", dict:=none,data:=.seq its.toArray c',slots:=#[]}->EP X pins σ Q (.ref s.heap.objs.size) {s with heap:=h' }:=fun its r' hz h' c' kp e =>
  ⟨.ref s.heap.objs.size,_,I.laid (t':=s.toks) kp (Nat.le_refl _) (show ObjOk X.prog X.w _ h' _ (.lst ys) from ⟨hz,its,c',r',e⟩),rfl,q _ (I.hok.fresh (Nat.le_refl _))⟩
 rcases hq with hq|hq
 ·obtain⟨its,r',pl,hz⟩:=I.list hq
  have hlen:=r'.length
  obtain⟨o,ho,hc,n,hd⟩:=pl.isList
  exact call_list_seq p (.inl rfl) ho hc hd (fun h' c' kp e=>fin its r' hz h' c' kp e) (by simp only[List.size_toArray]<;>omega)
 ·obtain⟨its,r',pl,hz⟩:=I.tuple hq
  have hlen:=r'.length
  obtain⟨o,ho,hc,n,hd⟩:=pl
  exact call_list_seq p (.inr rfl) ho hc hd (fun h' c' kp e=>fin its r' hz h' c' kp e) (by simp only[List.size_toArray]<;>omega)
theorem call_tuple_of:CallR X (.type "tuple") (fun xs H Q=>∃p ys,xs=[.ref p]/\((SqL X.K H p ys/\∀l,H l=none->Q (.ref l) (upd H l (.tup ys)))∨(SqT X.K H p ys/\Q (.ref p) H))):=by
 intro pins s σ H xs us Q I r h
 obtain⟨p,ys,rfl,h⟩:=h
 obtain⟨u,rfl,rx⟩:=vals1 r
 cases rx
 rcases h with ⟨hq,q⟩|⟨hq,q⟩
 ·obtain⟨its,r',pl,hz⟩:=I.list hq
  have hlen:=r'.length
  refine call_tuple_list pl.isList (fun h' kp=>?_) (by simp only[List.size_toArray]<;>omega)
  have I1:Inv X pins σ H {s with heap:=h' }:=I.kept (t':=s.toks) kp
  have I2:Inv X pins σ (upd H h'.objs.size (.tup ys)) {s with heap:=h'.push {cls:=.type "tuple", data:=.seq its.toArray} } :=
   I1.laid (t':=s.toks) (fun b o e=>Heap.get?_push_of_some _ e) (Nat.le_refl _) (show ObjOk X.prog X.w _ _ _ (.tup ys) from ⟨hz,its,r',IsTup.new _ _⟩)
  exact⟨.ref h'.objs.size,_,I2,rfl,q _ (I1.hok.fresh (Nat.le_refl _))⟩
 ·obtain⟨its,r',pl,hz⟩:=I.tuple hq
  exact call_tuple_same pl ⟨.ref p,H,I,rfl,q⟩
def tyV(K:PySem.W.Frag)(T:String)(x:V)(H:Hp):Prop:=match x with
 | .str _=>T = "str"
 | .int _=>T = "int"
 | .ref p=>(T = "list" /\ ∃xs,SqL K H p xs)∨(T = "tuple" /\ ∃o,K.lookup p=some o/\o.cls=.type "tuple" /\ o.dict=none) ∨
   (T = "dict" /\ ((∃kvs,H p=some (.dK kvs))∨∃kvs,H p=some (.dT kvs)))∨(T = "set" /\ ∃S n,H p=some (.set S n))
 | _=>False
theorem tyV_is{pins:List (Addr×Obj)}{σ:St}{H:Hp}{s:Shared}{T:String}{x:V}{v:Value}(I:Inv X pins σ H s)(r:RelV x v)(ty:tyV X.K T x H) :
  s.TypeIs v T/\∀a,v=.ref a->∃ob,s.heap.get? a=some ob/\ob.dict=none:=by
 cases x with
 | str z =>
  obtain⟨t,rfl⟩:=r
  cases (show T = "str" from ty)
  exact⟨typeIs_str s z t,fun _ e=>nomatch e⟩
 | int i =>
  obtain⟨t,rfl⟩:=r
  cases (show T = "int" from ty)
  exact⟨typeIs_int s i t,fun _ e=>nomatch e⟩
 | ref p =>
  cases r
  rcases ty with ⟨rfl,xs,hq⟩|⟨rfl,o,hk,hc,hd⟩|⟨rfl,hk⟩|⟨rfl,S,n,hk⟩
  ·obtain⟨its,_,pl,_⟩:=I.list hq
   refine⟨pl.isList.typeIs,fun a e=>?_⟩
   cases e
   obtain⟨o,n,e,c,hd,_⟩:=pl
   exact⟨o,e,hd⟩
  ·refine⟨⟨o,I.kIn p o hk,hc⟩,fun a e=>?_⟩
   cases e
   exact⟨o,I.kIn _ o hk,hd⟩
  ·have z:∃o,s.heap.get? p=some o/\o.ExactDict:=by
    rcases hk with ⟨kvs,hk⟩|⟨kvs,hk⟩
    ·obtain⟨_,_,_,_,o,_,_,e,ex,_⟩:=I.hok p _ hk
     exact⟨o,e,ex⟩
    ·obtain⟨_,_,_,_,o,_,_,e,ex,_⟩:=I.hok p _ hk
     exact⟨o,e,ex⟩
   obtain⟨o,e,ex⟩:=z
   refine⟨⟨o,e,ex.1⟩,fun a e2=>?_⟩
   cases e2
   exact⟨o,e,ex.2.1⟩
  ·obtain⟨o,_,_,_,e,ex,_⟩:=I.hok p _ hk
   refine⟨⟨o,e,ex.1⟩,fun a e2=>?_⟩
   cases e2
   exact⟨o,e,ex.2.1⟩
 | _=>exact False.elim ty
def tBM(K:PySem.W.Frag)(T:String)(r:V->List V->Hp->VK->Prop)(to:TE)(t:TA):TE:=fun σ H Q=>to σ H fun x H1=>tyV K T x H1/\t σ H1 fun xs H2=>r x xs H2 Q
variable {o e:Expr} {es:List Expr} {to:TE} {t:TA} {name:Str} {apos cpos:Pos} {T id:String} {r:V->List V->Hp->VK->Prop}
theorem pe_bm(pa:PlainAttrs T)(slot:Slot T name id) (hty:typeOf (.builtin id)=pure (.type "method_descriptor")) (hm:MtR X id r) (ho:PE X o to) (ha:PA X (e::es) t)
  (hbase:attributeBase o name X.env (eval o X.env)=eval o X.env:=by rfl)
  (hfew:((backTo cpos (starEach (e::es) X.env)).all (fun x=>!x.1)&&(backToKw cpos (keywordEach [] X.env)).all (fun x=>x.1.isSome)
   && decide ((e::es).length + ([]:List Keyword).length + (if ([]:List Keyword).isEmpty then 0 else 1) < 30))=true:=by rfl)
  (hline:(apos.endLine==cpos.line)=true:=by rfl) (hs:starEach (e::es) X.env=(false,eval e X.env)::starEach es X.env:=by rfl) (hplain:(backTo cpos (starEach es X.env)).any (·.1)=false:=by rfl) :
  PE X (.Call (.Attribute o name apos) (e::es) [] cpos) (tBM X.K T r to t):=by
 intro pins s σ H Q I h
 refine wpAny_Call_method_late hbase hfew hline rfl (thn (ho pins s σ H _ I h) fun v s1 ⟨x,H1,I1,r1,ty,q1⟩=>?_)
 obtain⟨h1,h2⟩:=tyV_is I1 r1 ty
 refine⟨T,id,pa,slot,hty,h1,h2,?_⟩
 have hA:=ha cpos pins s1 σ H1 _ I1 q1
 rw[hs]at hA ⊢
 refine Calls.callWith_builtin (by show (false||(backTo cpos (starEach es X.env)).any (·.1))=false;rw[hplain]<;>rfl) (Calls.evalArgs_plain ?_)
 exact thn hA fun us s2 ⟨vs,H2,I2,r2,q2⟩=>hm pins s2 σ H2 x vs v us Q I2 r1 r2 q2
end
end L2
namespace L2
open PySem PySem.Spec PyProof.Rows
def MtM(X:Cx)(id:String)(r:V->List V->Hp->VK->Prop):Prop :=
 ∀(pins:List (Addr×Obj))(s:Shared)(σ:St)(H:Hp)(x:V)(xs:List V)(v:Value)(us:List Value)(Q:VK),Inv X pins σ H s->RelV x v->Vals xs us->r x xs H Q →
  wpAny (model X.prog X.w) X.A (call (.builtin id) (v::us)) (EP X pins σ Q) X.xe s
theorem Vals.one:∀{x:V}{us:List Value},Vals [x] us->∃u,us=[u]/\RelV x u
 | _,_,.cons r .nil=>⟨_,rfl,r⟩
theorem Vals.dropLast{xs:List V}{us:List Value}(h:Vals xs us):Vals xs.dropLast us.dropLast:=by
 induction h with
 | nil=>exact .nil
 | cons r t ih =>
  cases t with
  | nil=>exact .nil
  | cons q t'=>exact .cons r ih
theorem Vals.reverse{xs:List V}{us:List Value}(h:Vals xs us):Vals xs.reverse us.reverse:=by
 induction h with
 | nil=>exact .nil
 | cons r t ih=>rw[List.reverse_cons,List.reverse_cons];exact Vals.append ih (.cons r .nil)
section
variable {X:Cx} {pins:List (Addr×Obj)} {σ:St} {H:Hp} {s:Shared} {l b:Addr} {xs ys zs:List V}
theorem Inv.lset{its its':List Value}{n:Nat}{f:Array Value->Array Value}{t':Nat}(I:Inv X pins σ H s)(hH:H l=some (.lst xs))
  (e:s.heap.get? l=some {cls:=.type "list", data:=.seq its.toArray n}) (hf:f its.toArray=its'.toArray) (hv:Vals ys its') (hz:ys.length<=sizeLine) :
  Inv X pins σ (upd H l (.lst ys)) {s with heap:=s.heap.update l (Obj.mapSeq f),toks:=t' }:=by
 have q:=PySem.IsL.update e f
 rw[hf]at q
 refine I.write (x:=l) (e:=l) (by rw[hH];exact trivial) (.inl rfl) (fun b' u hb hu=>(Heap.get?_update_other s.heap (Obj.mapSeq f) (Ne.symm hb)).trans hu) ⟨_,q⟩ ?_
 exact⟨hz,its',_,hv,q⟩
theorem Inv.fresh(I:Inv X pins σ H s):H s.heap.objs.size=none:=I.hok.fresh (Nat.le_refl _)
theorem Inv.lstM(I:Inv X pins σ H s)(hH:H l=some (.lst xs)):xs.length<=sizeLine/\∃(its:List Value) (n:Nat),Vals xs its/\xs.length=its.length/\s.heap.get? l=some {cls:=.type "list", data:=.seq its.toArray n}:=by
 obtain⟨z,its,n,r,e⟩:=I.hok l _ hH
 exact⟨z,its,n,r,r.length,e⟩
end
section
variable {X:Cx}
def rAppend:V->List V->Hp->VK->Prop:=fun x vs H Q=>∃l xs y,x=.ref l/\vs=[y]/\H l=some (.lst xs)/\xs.length < sizeLine/\Q .non (upd H l (.lst (xs++[y])))
theorem mt_append:MtM X "list.append" rAppend:=by
 intro pins s σ H x vs v us Q I rx rv h
 obtain⟨l,xs,y,rfl,rfl,hH,hz,q⟩:=h
 cases rx
 obtain⟨u,rfl,ru⟩:=rv.one
 obtain⟨z,its,n,r,hl,e⟩:=I.lstM hH
 refine call_meets F.slot_list_append ⟨_,e,rfl⟩ F.entry_list_append (F.args_list_append_2 _ _) (PySem.list_append l its.toArray n u (by rw[List.size_toArray];omega)) ⟨e,?_⟩
 refine⟨.non,_,I.lset (its':=its++[u]) hH e (by simp) (r.append (.cons ru .nil)) ?_,rfl,q⟩
 rw[List.length_append,List.length_singleton]
 omega
end
section
variable {prog:Program} {w:World} {A:Around} {E:Value->Shared->Prop} {s:Shared}
end
section
variable {X:Cx}
end
end L2
namespace Att
open PySem PySem.W PySem.Calls PyProof.Rows
theorem ints_of_wellAll{P:Params}{h:Heap}:∀(ns:List Int)(vs:List Value),WellAll P h vs (ns.map WData.int)->IntsAre vs ns:=by
 intro ns
 induction ns with
 | nil =>
  intro vs w
  rw[List.map_nil]at w
  cases w
  exact .nil
 | cons n ns ih =>
  intro vs w
  rw[List.map_cons]at w
  cases w with
  | cons a b =>
   cases a
   exact .cons _ _ (ih _ b)
theorem script_of{l:OpenLaw}{n:Nat}(hn:l.most=some n){P:Params}{h:Heap}{args:List WData}{vals:List Value}
  (hpre:l.row.toRowW.claim.pre args=true) (hwl:WellAll P h vals args) :
  ∃a vs ns,vals=[Value.ref a]/\args=[WData.list (ns.map WData.int)]/\h.get? a=some {cls:=.type "list", data:=.seq vs.toArray}/\IntsAre vs ns/\ns.length<=n:=by
 have hsh:WShape.hasAll [] args [.list .int]=true:=(pre_splitW hpre).1
 have hc:l.pre.holds [] {args:=args}=true:=(pre_splitW hpre).2
 obtain⟨d,r,rfl,h1,h2⟩:=hasAllW_cons hsh
 obtain rfl:=hasAllW_nil h2
 obtain⟨xs,rfl,h3⟩:=hasW_list h1
 obtain⟨ns,rfl⟩:=items_int h3
 have hlen:ns.length<=n:=by
  unfold OpenLaw.pre at hc
  have h4:(WTm.not (.lt (.lit (.int (n:Int))) (.len (.arg 0)))).holds [] {args:=[.list (ns.map .int)]}=true:=by
   have h4:=(holds_andW hc).1
   rw[hn]at h4
   exact h4
  have h5:=condW_of h4 (w_not (w_lt w_lit (w_len_list (w_arg rfl))))
  rw[List.length_map]at h5
  refine Nat.le_of_not_lt fun q=>?_
  have q':(n:Int) < ((ns.length:Nat):Int):=by omega
  first
   | (rw[decide_eq_true q']at h5;exact absurd h5 (by decide))
   | (simp at h5;omega)
 cases hwl with
 | cons w1 w2 =>
  cases w2
  cases w1 with
  | list ho hall=>exact⟨_,_,ns,rfl,rfl,ho,ints_of_wellAll ns _ hall,hlen⟩
theorem post_true(l:OpenLaw)(args:List WData):l.row.toRowW.claim.post args (.bool true) args=true :=
 postW_of (r:=l.row.toRowW) (X:=(true==true))
  (show WShape.has [] (.bool true) .bool=true by first|rfl|decide|simp[WShape.has,WShape.arms,WShape.armsAll])
  (show (WTm.eq .res (.lit (.bool true))).value [] {args:=args,res:=some (.bool true),after:=args}=some (.bool (true==true)) from w_eq_bool (w_res rfl) w_lit) rfl
theorem attach_call{l:OpenLaw}{n:Nat}{q:Program}{loose:List Str}{XP:(Str->Option Value)->Heap->Prop}{YP:World->Heap->Prop}{d:DefRec}
  (hn:l.most=some n) (hdf:d.params.defaults=[])
  (call:∀(w:World)(s₀ s₁:Shared)(mg mb:Str->Option Value)(fa:Addr)(o:Obj)(pm cd doc:Value)(a:Addr)(vs:List Value)(ns:List Int),
   Ground q loose [] XP w s₀ mg mb s₁.heap->YP w s₁.heap →
   s₁.heap.get? fa=some o->o.data=.func (docDef d.name d.params d.body d.scope pm cd doc)->s₁.heap.CodeRec cd d.name->mg d.name=some (.ref fa) →
   s₁.heap.get? a=some {cls:=.type "list", data:=.seq vs.toArray}->IntsAre vs ns->ns.length<=n->s₁.gens=#[] →
   codeAny (model l.prog w) callerA (.call (.ref fa) ⟨[.ref a],[]⟩) (fun r s'=>r=.ok (.ret (.bool true))/\OldK s₁.heap s'.heap/\s'.os=s₁.os/\AllBare s'.gens) s₁) :
  WalkO q loose XP YP l.row.toRowW d [] (fun f vs=>PySem.call f vs):=by
 intro w s₀ s₁ mg mb G Y fa o pm cd doc dV kV ho hd hcd hD hmg hg args vals as hpre hlay hrd hwl hlo
 obtain rfl:dV=.none:=Dflts.none hD hdf
 obtain rfl:kV=.none:=Dflts.noKw hD
 obtain⟨a,vs,ns,rfl,rfl,hobj,hints,hlen⟩:=script_of hn hpre hwl
 refine enter_call (codeAny_mono (call w s₀ s₁ mg mb fa o pm cd doc a vs ns G Y ho (fd_plain hd) hcd hmg hobj hints hlen hg) fun r s' hq=>?_)
 obtain⟨rfl,h2,h3,h4⟩:=hq
 exact⟨.inl ⟨.bool true,.bool true,[],rfl,fun _=>rfl,.bool true,post_true l _,fun _=>⟨List.Pairwise.nil,fun _ hm=>(nomatch hm)⟩⟩,h2,h3,h4⟩
section
variable {prog:Program} {w:World} {A:Around} {E:Value->Shared->Prop} {s:Shared} {K:Frag}
def ledger(h:Heap)(L d:Addr):List (Addr×Obj):=(List.range h.objs.size).filterMap fun a=>if a=L∨a=d then none else (h.get? a).map fun o=>(a,o)
end
end Att
namespace L2
open PySem PySem.Spec PyProof.Rows
theorem vals_ints:∀{vs:List Value}{ns:List Int},IntsAre vs ns->Vals (ns.map V.int) vs
 | _,_,.nil=>.nil
 | _,_,.cons n t h=>.cons ⟨t,rfl⟩ (vals_ints h)
def Only(H:Hp):Prop:=∀b,H b=none∨∃o xs,H b=some (.frz o (.lst xs))
theorem law_call{P:Program}{w:World}{K:PySem.W.Frag}{mg mb:Str->Option Value}{CX:CXT}{k:Nat}{fa a:Addr}{fd:FuncData}{x:Str}{sp:Sp}{s₁:Shared}{vs:List Value}{ns:List Int}
  (KX:K.In s₁.heap) (hns:s₁.heap.Ns mainGlobals mg) (hb:s₁.heap.Ns builtinsNs mb) (hbb:∀x:Str,x ≠ "__name__" -> mb x=bootBuiltins x) (hlim:s₁.heap.NoLimit) (hg:s₁.gens=#[])
  (ha:s₁.heap.get? a=some {cls:=.type "list", data:=.seq vs.toArray}) (hi:IntsAre vs ns) (hl:ns.length<=sizeLine) (hr:Room k callerA)
  (F:∀base:Heap,K.In base->base.Ns mainGlobals mg->FnOk P w K mg base CX k fa fd [x] sp) (hbind:∀(s:Shared)(u:Value),BindsTo s fd ⟨[u],[]⟩ [(x,u)])
  (hsp:∀H:Hp,Only H->SqL K H a (ns.map V.int)->sp [.ref a] H (fun v _=>v=.bl true) fun _ _ _=>False)
  (hCX:∀H e s',CX [] H s₁ (fun _ _ _=>False) e s'->False) :
  codeAny (model P w) callerA (.call (.ref fa) ⟨[.ref a],[]⟩) (fun r s'=>r=.ok (.ret (.bool true))/\OldK s₁.heap s'.heap/\s'.os=s₁.os/\AllBare s'.gens) s₁:=by
 have rv:=vals_ints hi
 have lenV:=hi.length
 have core:∀H:Hp,Only H->SqL K H a (ns.map V.int)->HOk P w H s₁.heap->(∀b,H b≠none->b=a)->(H a≠none->K.lookup a=none) →
   codeAny (model P w) callerA (.call (.ref fa) ⟨[.ref a],[]⟩) (fun r s'=>r=.ok (.ret (.bool true))/\OldK s₁.heap s'.heap/\s'.os=s₁.os/\AllBare s'.gens) s₁:=by
  intro H hO hS hok hA hK
  have base_of:∀{b:Addr}{o:Obj},s₁.heap.get? b=some o->H b=none->(hidT s₁.heap H).get? b=some o:=fun e n=>hidT_get e n
  have noA:∀{b:Addr}{o:Obj}{es:Array DictEntry}{ep:Nat},s₁.heap.get? b=some o->o.data=.dict es ep->H b=none:=fun {b o es ep} e d=>by
   cases q:H b with
   | none=>rfl
   | some u =>
    have e':b=a:=hA b (by rw[q];simp)
    subst e'
    rw[ha]at e;cases e
    have d':Data.seq vs.toArray _=Data.dict es ep:=d
    cases d'
  have nsK:∀{b:Addr}{m:Str->Option Value},s₁.heap.Ns b m->(hidT s₁.heap H).Ns b m:=fun {b m} ⟨o,es,ep,e,d,r⟩=>⟨o,es,ep,base_of e (noA e d),d,r⟩
  have hKb:K.In (hidT s₁.heap H):=fun b o e=>base_of (KX b o e) (by
   cases q:H b with
   | none=>rfl
   | some u =>
    have e':b=a:=hA b (by rw[q];simp)
    subst e'
    rw[hK (by rw[q];simp)]at e;cases e)
  have hM:Mod K mg (hidT s₁.heap H):=⟨hKb,nsK hns,⟨mb,nsK hb,hbb⟩,let ⟨mc,h1,h2⟩:=hlim;⟨mc,nsK h1,h2⟩⟩
  have e0:Env0 P w K mg (hidT s₁.heap H) callerA [] s₁ H:=⟨rfl,hM,fun b o e=>of_hidT e,Nat.le_of_eq (hidT_size _ _),trivial,fun b hb=>absurd (show b∈([]:List Addr) from hb) (by simp),hok,.of_eq hg⟩
  refine codeAny_mono ((F _ hKb (nsK hns)).run callerA [] s₁ H ⟨[.ref a],[]⟩ [.ref a] [.ref a] _ _ hr e0 (hbind s₁ (.ref a)) (.cons rfl .nil) (hsp H hO hS)) fun r s' h=>?_
  cases r with
  | error e=>exact(hCX H e s' h).elim
  | ok fl =>
   cases fl with
   | next=>exact False.elim h
   | brk=>exact False.elim h
   | cont=>exact False.elim h
   | ret u =>
    obtain⟨v,H',os,bare,un,hok',r',q⟩:=h
    have q':v=.bl true:=q
    subst q'
    obtain rfl:u=Value.bool true:=r'
    refine⟨rfl,OldK.of_keep fun b o e=>?_,os,bare⟩
    cases q:H b with
    | none=>exact un.keep b o e q (by intro z;exact absurd (show b∈([]:List Addr) from z) (by simp)) (by simp)
    | some u =>
     rcases hO b with z|⟨ob,xs,z⟩
     ·rw[q]at z;cases z
     ·have z2:=un.frzs b ob _ z
      obtain⟨e1,_⟩:=hok b _ z
      obtain⟨e2,_⟩:=hok' b _ z2
      rw[e]at e1;cases e1
      exact e2
 cases hk:K.lookup a with
 | some o =>
  have e:=KX a o hk
  rw[ha]at e
  cases e
  refine core (fun _=>none) (fun _=>.inl rfl) (.inr ⟨_,vs.toArray,_,hk,rfl,rfl,rfl,by rw[List.size_toArray,lenV];exact hl,by simpa using rv⟩) (fun b u z=>by have z':(none:Option HO)=some u:=z;cases z') (fun b z=>absurd rfl z) fun z=>absurd rfl z
 | none =>
  refine core (fun b=>if b=a then some (.frz {cls:=.type "list", data:=.seq vs.toArray} (.lst (ns.map V.int))) else none) (fun b=>?_) (.inl (.inr ⟨{cls:=.type "list", data:=.seq vs.toArray},if_pos rfl⟩)) (fun b u z=>?_) (fun b z=>?_) fun _=>hk
  ·by_cases hb:b=a
   ·exact .inr ⟨_,_,if_pos hb⟩
   ·exact .inl (if_neg hb)
  ·by_cases hb:b=a
   ·have z':=(if_pos hb).symm.trans z
    cases z'
    subst hb
    exact⟨ha,by rw[List.length_map];exact hl,vs,_,rv,ha⟩
   ·have z':=(if_neg hb).symm.trans z
    cases z'
  ·by_cases hb:b=a
   ·exact hb
   ·exact absurd (if_neg hb) z
end L2
namespace L2
open PySem PySem.Spec PyProof.Rows
abbrev KOf{K:PySem.W.Frag}{h:Heap}(_:K.In h):PySem.W.Frag:=K
theorem walk_of{l:PySem.W.OpenLaw}{n k:Nat}{q:Program}{loose:List Str}{XP:(Str->Option Value)->Heap->Prop}{YP:World->Heap->Prop}{d:DefRec}{K:Params->PySem.W.Frag}{CX:World->CXT}{sp:World->Sp}{x:Str}
  (hn:l.most=some n) (hn2:n<=sizeLine) (hdf:d.params.defaults=[]) (hr:Room k callerA)
  (hY:∀(w:World)(h:Heap),YP w h->(K w.params).In h)
  (F:∀(w:World)(mg:Str->Option Value)(fa:Addr)(h:Heap),(K w.params).In h->h.Ns mainGlobals mg->mg d.name=some (.ref fa) →
   ∃fd:FuncData,(∀(s:Shared)(u:Value),BindsTo s fd ⟨[u],[]⟩ [(x,u)]) ∧
    ∀base:Heap,(K w.params).In base->base.Ns mainGlobals mg->FnOk l.prog w (K w.params) mg base (CX w) k fa fd [x] (sp w))
  (hsp:∀(w:World)(H:Hp)(a:Addr)(ns:List Int),ns.length<=n->Only H->SqL (K w.params) H a (ns.map V.int)->sp w [.ref a] H (fun v _=>v=.bl true) fun _ _ _=>False)
  (hCX:∀(w:World)(H:Hp)(s:Shared)(e:Value)(s':Shared),CX w [] H s (fun _ _ _=>False) e s'->False) :
  PySem.W.WalkO q loose XP YP l.row.toRowW d [] (fun f vs=>PySem.call f vs):=by
 refine Att.attach_call hn hdf fun w s₀ s₁ mg mb fa o pm cd doc a vs ns G Y ho hd hcd hmg hobj hints hlen hg=>?_
 have KX:=hY w _ Y
 obtain⟨fd,hb,hF⟩:=F w mg fa _ KX G.T.g hmg
 exact law_call KX G.T.g G.T.b G.T.builtins G.T.nolimit hg hobj hints (Nat.le_trans hlen hn2) hr hF hb (fun H hO hS=>hsp w H a ns hlen hO hS) fun H e s'=>hCX w H s₁ e s'
end L2
namespace L2
open PySem PySem.Spec PyProof.Rows
def defArgs(s:Stmt):Arguments:=match s with
 | .FunctionDef _ a _ _ _ _ _ _ _ _=>a
 | _=>{posonlyargs:=[],args:=[],vararg:=none,kwonlyargs:=[],kw_defaults:=[],kwarg:=none,defaults:=[]}
def defBody(s:Stmt):List Stmt:=match s with
 | .FunctionDef _ _ b _ _ _ _ _ _ _=>b
 | _=>[]
def defScope(s:Stmt):Scope:=match s with
 | .FunctionDef _ _ _ _ _ _ sc _ _ _=>sc
 | _=>{kind:=.function,names:=[],isGenerator:=false,isCoroutine:=false}
abbrev CX0:CXT:=fun _ _ _ _ _ _=>False
abbrev E0:XK:=fun _ _ _=>False
theorem pass0{X:Cx}:Passes CX0 X E0:=fun _ _ _ _ _ _ _ h=>h.elim
structure Fun(K:PySem.W.Frag)(x qual:Str)(st:Stmt)(f:Addr)(fd:FuncData):Prop where
 ex:∃(oc:Value) (od:Option Addr) (kV doc pm:Value) (an:Option Addr) (cdv ct:Value) (osl:Array (Option Value)),
  fd=PySem.W.fnOf x qual (defArgs st) (defBody st) (defScope st) .none kV doc pm an cdv ct/\K.lookup f=some ⟨oc,od,.func fd,osl⟩/\PySem.W.codeIn K cdv qual=true
 kp:PySem.W.keepIn K (.ref f)=true
section
variable {P:Program} {w:World} {K:PySem.W.Frag} {mg:Str->Option Value} {base:Heap}
theorem Fun.ok{x qual:Str}{st:Stmt}{f:Addr}{fd:FuncData}{N ps:List Str}{k:Nat}{sp:Sp}(F:Fun K x qual st f fd)(S:FnScope N ps (defScope st))(len:∀vs H Q E,sp vs H Q E->vs.length=ps.length)
  (hbody:∀(cdv:Value)(A:Around)(outer:List Env)(s:Shared)(H:Hp)(vs:List V)(Q:VK)(E:XK),Room k (A.deeper (envOfC qual (defScope st) s.heap.objs.size f cdv))->sp vs H Q E →
   ∃t,PSs (cxOf CX0 P w K mg base N qual (defScope st) f cdv A outer s H E).nox (defBody st) t/\t {nx:=fun _ H'=>Q .non H',rt:=Q} (start N vs) H):FnOk P w K mg base CX0 (k + 1) f fd ps sp:=by
 obtain⟨oc,od,kV,doc,pm,an,cdv,ct,osl,rfl,lk,hcd⟩:=F.ex
 refine fn_of lk hcd S len fun A outer s H vs Q E hr hsp=>?_
 obtain⟨t,h,q⟩:=hbody cdv A outer s H vs Q E hr hsp
 exact⟨t,h.nox,q⟩
theorem Fun.binds{x qual:Str}{st:Stmt}{f:Addr}{fd:FuncData}{ps:List Str}(F:Fun K x qual st f fd)
  (h:∀(kV doc pm:Value)(an:Option Addr)(cdv ct:Value)(us:List Value),us.length=ps.length->bindArgs (PySem.W.fnOf x qual (defArgs st) (defBody st) (defScope st) .none kV doc pm an cdv ct) ⟨us,[]⟩=pure (ps.zip us)):Binds K fd ps []:=by
 obtain⟨oc,od,kV,doc,pm,an,cdv,ct,osl,rfl,lk,hcd⟩:=F.ex
 exact .all (h kV doc pm an cdv ct)
theorem fun_mk{x qual:Str}{st:Stmt}{f:Addr}{oc:Value}{od an:Option Addr}{osl:Array (Option Value)}{kV doc pm cdv ct:Value}(l:K.lookup f=some ⟨oc,od,.func (PySem.W.fnOf x qual (defArgs st) (defBody st) (defScope st) .none kV doc pm an cdv ct),osl⟩)
  (c:PySem.W.codeIn K cdv qual=true) (k:PySem.W.keepIn K (.ref f)=true):Fun K x qual st f (PySem.W.fnOf x qual (defArgs st) (defBody st) (defScope st) .none kV doc pm an cdv ct):=⟨⟨oc,od,kV,doc,pm,an,cdv,ct,osl,rfl,l,c⟩,k⟩
end
theorem hu_of{A:Around}{k:Nat}(hr:Room k A):A.units + 1 < cLine:=Nat.lt_of_le_of_lt (Nat.add_le_add_left (by decide:1<=64) _) hr.units
theorem small1000{n:Nat}(h:n<=1000):n < sizeLine:=Nat.lt_of_le_of_lt h (by decide)
section
variable {X:Cx}
theorem pv(i:Nat){x:Str}{pos:Pos}(hN:X.N[i]?=some x:=by rfl)(hv:Vis X.env.scope x:=by first|exact Or.inl rfl|exact Or.inr (Or.inl rfl)|exact Or.inr (Or.inr rfl)) (hd:(x==("__debug__" : Str))=false:=by decide)
  (hcd:(x==("__classdict__" : Str))=false:=by decide):PE X (.Name x pos) (tVar i):=pe_var hN hv hd hcd
end
def Same(H H':Hp):Prop:=∀b o,H b=some o->H' b=some o
theorem Same.refl(H:Hp):Same H H:=fun _ _ h=>h
theorem Same.trans{H H1 H2:Hp}(a:Same H H1)(b:Same H1 H2):Same H H2:=fun c o h=>b c o (a c o h)
theorem Same.free{H H':Hp}(e:Same H H'){l:Addr}(h:H' l=Option.none):H l=Option.none:=by
 cases q:H l with
 | none=>rfl
 | some o =>
  rw[e l o q]at h
  cases h
theorem Same.seq{K:PySem.W.Frag}{H H':Hp}{a:Addr}{xs:List V}(e:Same H H')(h:SqL K H a xs):SqL K H' a xs:=by
 rcases h with (h|⟨o,h⟩)|h
 ·exact .inl (.inl (e _ _ h))
 ·exact .inl (.inr ⟨o,e _ _ h⟩)
 ·exact .inr h
end L2
section
namespace L2
open PySem PySem.Spec PyProof.Rows
section
variable {κ:Type} [DecidableEq κ]
def valV(kvs:List (κ×V))(k:κ):Option V:=(kvs.find? fun kv=>decide (kv.1=k)).map (·.2)
def putK(kvs:List (κ×V))(k:κ)(v:V):List (κ×V) :=
 if (kvs.any fun kv=>decide (kv.1=k))=true then kvs.map (fun kv=>if kv.1=k then (kv.1,v) else kv) else kvs++[(k,v)]
def dropK(kvs:List (κ×V))(k:κ):List (κ×V):=kvs.filter fun kv=>decide (kv.1≠k)
theorem valV_pos{p:κ×V}{r:List (κ×V)}{k:κ}(e:p.1=k):valV (p::r) k=some p.2:=by simp[valV,List.find?_cons,e]
theorem valV_neg{p:κ×V}{r:List (κ×V)}{k:κ}(e:¬ p.1=k):valV (p::r) k=valV r k:=by simp[valV,List.find?_cons,e]
theorem valV_any(k:κ):∀kvs:List (κ×V),(kvs.any fun kv=>decide (kv.1=k))=(valV kvs k).isSome
 | []=>rfl
 | p::r=>by
  rw[List.any_cons]
  by_cases e:p.1=k
  ·simp only[valV_pos e,decide_eq_true e,Bool.true_or,Option.isSome_some]
  ·rw[valV_neg e,decide_eq_false e,Bool.false_or];exact valV_any k r
theorem length_putK(kvs:List (κ×V))(k:κ)(v:V):(putK kvs k v).length<=kvs.length + 1:=by
 unfold putK
 split
 ·rw[List.length_map];omega
 ·rw[List.length_append,List.length_cons,List.length_nil];omega
theorem RelO.isSome_eq{o:Option V}{u:Option Value}(r:RelO o u):o.isSome=u.isSome:=by
 cases o with
 | none=>cases u with
  | none=>rfl
  | some _=>exact(show False from r).elim
 | some _=>cases u with
  | none=>exact(show False from r).elim
  | some _=>rfl
theorem RelO.getD{o:Option V}{u:Option Value}{d:V}{d':Value}(r:RelO o u)(rd:RelV d d'):RelV (o.getD d) (u.getD d'):=by
 cases o with
 | none=>cases u with
  | none=>exact rd
  | some _=>exact(show False from r).elim
 | some _=>cases u with
  | none=>exact(show False from r).elim
  | some _=>exact r
theorem KV.val{kvs:List (κ×V)}{vs:List (κ×Value)}(r:KV kvs vs)(k:κ):RelO (valV kvs k) (valueAt vs k):=by
 unfold KV at r
 induction r with
 | nil=>exact True.intro
 | @cons p q ps qs h t ih =>
  obtain⟨h1,h2⟩:=h
  by_cases e:p.1=k
  ·have e':q.1=k:=h1.symm.trans e
   have b:valueAt (q::qs) k=some q.2:=by simp[valueAt,List.find?_cons,e']
   rw[valV_pos e,b];exact h2
  ·have e':¬ q.1=k:=fun z=>e (h1.trans z)
   have b:valueAt (q::qs) k=valueAt qs k:=by simp[valueAt,List.find?_cons,e']
   rw[valV_neg e,b];exact ih
theorem KV.any{kvs:List (κ×V)}{vs:List (κ×Value)}(r:KV kvs vs)(k:κ):(kvs.any fun kv=>decide (kv.1=k))=vs.any fun kv=>decide (kv.1=k):=by
 unfold KV at r
 induction r with
 | nil=>rfl
 | cons h t ih=>rw[List.any_cons,List.any_cons,ih,h.1]
theorem KV.repl{kvs:List (κ×V)}{vs:List (κ×Value)}(r:KV kvs vs)(k:κ){y:V}{u:Value}(ry:RelV y u) :
  KV (kvs.map fun kv=>if kv.1=k then (kv.1,y) else kv) (vs.map fun kv=>if kv.1=k then (kv.1,u) else kv):=by
 unfold KV at r ⊢
 induction r with
 | nil=>exact .nil
 | @cons p q ps qs h t ih =>
  rw[List.map_cons,List.map_cons]
  refine .cons ?_ ih
  obtain⟨h1,h2⟩:=h
  by_cases e:p.1=k
  ·rw[if_pos e,if_pos (h1.symm.trans e)];exact⟨h1,ry⟩
  ·rw[if_neg e,if_neg (fun z=>e (h1.trans z))];exact⟨h1,h2⟩
theorem KV.put{kvs:List (κ×V)}{vs:List (κ×Value)}(r:KV kvs vs)(k:κ){y:V}{u:Value}(ry:RelV y u):KV (putK kvs k y) (stored vs k u):=by
 unfold putK stored
 rw[r.any k]
 by_cases e:(vs.any fun kv=>decide (kv.1=k))=true
 ·rw[if_pos e,if_pos e];exact r.repl k ry
 ·rw[if_neg e,if_neg e];exact Paired.snoc r ⟨rfl,ry⟩
theorem KV.drop{kvs:List (κ×V)}{vs:List (κ×Value)}(r:KV kvs vs)(k:κ):KV (dropK kvs k) (without vs k):=by
 unfold KV at r ⊢
 unfold dropK without
 induction r with
 | nil=>exact .nil
 | @cons p q ps qs h t ih =>
  obtain⟨h1,h2⟩:=h
  rw[List.filter_cons,List.filter_cons]
  by_cases e:p.1=k
  ·have a:¬ decide (p.1≠k)=true:=by simp[e]
   have b:¬ decide (q.1≠k)=true:=by simp[h1.symm.trans e]
   rw[if_neg a,if_neg b];exact ih
  ·have e':¬ q.1=k:=fun z=>e (h1.trans z)
   have a:decide (p.1≠k)=true:=by simp[e]
   have b:decide (q.1≠k)=true:=by simp[e']
   rw[if_pos a,if_pos b];exact .cons ⟨h1,h2⟩ ih
theorem KV.length{kvs:List (κ×V)}{vs:List (κ×Value)}(r:KV kvs vs):kvs.length=vs.length:=Paired.length r
end
theorem kV_is{P:Program}{w:World}{k:Key}{u:Value}(r:RelV (kV k) u):(mixKind P w).is k u=true:=by
 cases k with
 | inl i=>obtain⟨t,e⟩:=(show ∃t,u=Value.int i t from r);subst e;exact mixKind_int P w i t
 | inr x=>obtain⟨t,e⟩:=(show ∃t,u=Value.str x t from r);subst e;exact mixKind_str P w x t
theorem items_are{P:Program}{w:World}:∀{ks:List Key}{us:List Value},Vals (ks.map kV) us->ItemsAre (mixKind P w) ks us
 | [],_,r=>by rw[List.map_nil]at r;cases r;exact .nil
 | k::ks,_,r=>by
  rw[List.map_cons]at r
  cases r with
  | cons h t=>exact .cons (kV_is h) (items_are t)
abbrev KT(H:Hp):List (List Key×V)->List (List Key×Addr×Value)->Prop:=Paired fun p q=>p.1=q.1/\H q.2.1=some (.tup (p.1.map kV))/\RelV p.2 q.2.2
theorem KT.val{H:Hp}{kvs:List (List Key×V)}{xs:List (List Key×Addr×Value)}(r:KT H kvs xs)(k:List Key):RelO (valV kvs k) ((atKey xs k).map (·.2)):=by
 induction r with
 | nil=>exact True.intro
 | @cons p q ps qs h t ih =>
  obtain⟨h1,_,h2⟩:=h
  by_cases e:p.1=k
  ·have e':q.1=k:=h1.symm.trans e
   have b:atKey (q::qs) k=some q.2:=by simp[atKey,List.find?_cons,e']
   rw[valV_pos e,b];exact h2
  ·have e':¬ q.1=k:=fun z=>e (h1.trans z)
   have b:atKey (q::qs) k=atKey qs k:=by simp[atKey,List.find?_cons,e']
   rw[valV_neg e,b];exact ih
theorem KT.repl{H:Hp}{kvs:List (List Key×V)}{xs:List (List Key×Addr×Value)}(r:KT H kvs xs)(k:List Key){y:V}{u:Value}(ry:RelV y u) :
  KT H (kvs.map fun kv=>if kv.1=k then (kv.1,y) else kv) (xs.map (putAt k u)):=by
 induction r with
 | nil=>exact .nil
 | @cons p q ps qs h t ih =>
  rw[List.map_cons,List.map_cons]
  refine .cons ?_ ih
  obtain⟨h1,h2,h3⟩:=h
  unfold putAt
  by_cases e:p.1=k
  ·rw[if_pos e,if_pos (h1.symm.trans e)];exact⟨h1,h2,ry⟩
  ·rw[if_neg e,if_neg (fun z=>e (h1.trans z))];exact⟨h1,h2,h3⟩
theorem KT.put{H:Hp}{kvs:List (List Key×V)}{xs:List (List Key×Addr×Value)}(r:KT H kvs xs)(k:List Key){b:Addr}{y:V}{u:Value}(hb:H b=some (.tup (k.map kV)))(ry:RelV y u) :
  KT H (putK kvs k y) (storedH xs k b u):=by
 have e:(kvs.any fun kv=>decide (kv.1=k))=(atKey xs k).isSome:=by
  rw[valV_any,(r.val k).isSome_eq,Option.isSome_map]
 unfold putK storedH
 rw[e]
 by_cases q:(atKey xs k).isSome=true
 ·rw[if_pos q,if_pos q];exact r.repl k ry
 ·rw[if_neg q,if_neg q];exact Paired.snoc r ⟨rfl,hb,ry⟩
theorem KT.keeps{H H':Hp}{kvs:List (List Key×V)}{xs:List (List Key×Addr×Value)}(r:KT H kvs xs)(ht:∀b ys,H b=some (.tup ys)->H' b=some (.tup ys)):KT H' kvs xs :=
 Paired.mapP r fun _ _ z=>⟨z.1,ht _ _ z.2.1,z.2.2⟩
section
variable {P:Program} {w:World} {H:Hp} {h:Heap} {a:Addr}
theorem rd_of{u:HO}(ok:HOk P w H h)(e:Rd H a u):ObjOk P w H h a u:=e.ok ok
theorem dk_rd{kvs:List (Key×V)}(ok:HOk P w H h)(e:Rd H a (.dK kvs)):kvs.length<=sizeLine/\(a==sysModules)=false/\∃vs,KV kvs vs/\h.DictOf (mixKind P w) a vs :=
 show ObjOk P w H h a (.dK kvs) from rd_of ok e
theorem dk_of{kvs:List (Key×V)}(ok:HOk P w H h)(e:H a=some (.dK kvs)):kvs.length<=sizeLine/\(a==sysModules)=false/\∃vs,KV kvs vs/\h.DictOf (mixKind P w) a vs:=dk_rd ok (.inl e)
theorem key_of{ks:List Key}(ok:HOk P w H h)(e:H a=some (.tup (ks.map kV))):(tupleKind (mixKind P w)).is h ks a:=by
 obtain⟨_,its,r,o,h1,h2,n,h3⟩:=(show ObjOk P w H h a (.tup (ks.map kV)) from ok a _ e)
 exact⟨o,its.toArray,n,h1,h2,h3,by simpa using items_are r⟩
theorem dt_rd{kvs:List (List Key×V)}(ok:HOk P w H h)(e:Rd H a (.dT kvs)):kvs.length<=sizeLine/\(a==sysModules)=false ∧
  ∃xs,KT H kvs xs/\h.DictOfH (tupleKind (mixKind P w)) a xs:=by
 obtain⟨z,y,xs,r,o,es,ep,h1,h2,h3,h4,h5⟩:=(show ObjOk P w H h a (.dT kvs) from rd_of ok e)
 refine⟨z,y,xs,r,o,es,ep,h1,h2,h3,h4,fun x hx=>?_,h5⟩
 have all:∀{l:List (List Key×V)}{m:List (List Key×Addr×Value)},KT H l m->∀x∈m,(tupleKind (mixKind P w)).is h x.1 x.2.1:=by
  intro l m q
  induction q with
  | nil=>intro x hx;exact nomatch hx
  | @cons p q ps qs hq t ih =>
   intro x hx
   rcases List.mem_cons.mp hx with e|hx
   ·subst e
    exact key_of ok (by rw[← hq.1];exact hq.2.1)
   ·exact ih x hx
 exact all r x hx
theorem dt_of{kvs:List (List Key×V)}(ok:HOk P w H h)(e:H a=some (.dT kvs)):kvs.length<=sizeLine/\(a==sysModules)=false ∧
  ∃xs,KT H kvs xs/\h.DictOfH (tupleKind (mixKind P w)) a xs:=dt_rd ok (.inl e)
end
def DGet(H:Hp)(a:Addr)(y:V)(r:Option V):Prop :=
 (∃kvs k,Rd H a (.dK kvs)/\y=kV k/\r=valV kvs k)∨∃kvs k b,Rd H a (.dT kvs)/\y=.ref b/\H b=some (.tup (k.map kV))/\r=valV kvs k
def DPut(H:Hp)(a:Addr)(y v:V)(H':Hp):Prop :=
 (∃kvs k,H a=some (.dK kvs)/\y=kV k/\kvs.length < sizeLine/\H'=upd H a (.dK (putK kvs k v))) ∨
 ∃kvs k b,H a=some (.dT kvs)/\y=.ref b/\H b=some (.tup (k.map kV))/\kvs.length < sizeLine/\H'=upd H a (.dT (putK kvs k v))
theorem DGet.k{H:Hp}{a:Addr}{kvs:List (Key×V)}{k:Key}(e:H a=some (.dK kvs)):DGet H a (kV k) (valV kvs k):=.inl ⟨kvs,k,.inl e,rfl,rfl⟩
theorem DPut.k{H:Hp}{a:Addr}{kvs:List (Key×V)}{k:Key}{v:V}(e:H a=some (.dK kvs))(hl:kvs.length < sizeLine):DPut H a (kV k) v (upd H a (.dK (putK kvs k v))):=.inl ⟨kvs,k,e,rfl,hl,rfl⟩
section
variable {X:Cx} {pins:List (Addr×Obj)} {σ:St} {H:Hp} {s:Shared} {a:Addr} {y v:V} {u r:Value} {o:Option V} {A:Around} {E:Value->Shared->Prop}
theorem Inv.big(I:Inv X pins σ H s):sysModules < s.heap.objs.size:=by
 have h:mainGlobals < s.heap.objs.size:=(I.mod.glob.keeps I.bk).lt
 exact Nat.lt_trans (by decide) h
theorem d_write{h':Heap}{t':Nat}{ob:HO}(I:Inv X pins σ H s)(mu:Mut (H a))(hs:Heap.SameBut a s.heap h')(he:∃q,h'.get? a=some q)(new:ObjOk X.prog X.w (upd H a ob) h' a ob) :
  Inv X pins σ (upd H a ob) {s with heap:=h',toks:=t' } :=
 I.write (x:=a) (e:=a) mu (.inl rfl) (fun b q hb z=>(hs.2 b hb).trans z) he new
theorem dk_new{P:Program}{w:World}{H':Hp}{h':Heap}{kvs:List (Key×V)}{vs:List (Key×Value)}(z:kvs.length<=sizeLine)(hd:(a==sysModules)=false)(rel:KV kvs vs)(dd:h'.DictOf (mixKind P w) a vs) :
  ObjOk P w H' h' a (.dK kvs):=⟨z,hd,vs,rel,dd⟩
theorem d_setItem{H':Hp}{Q:Unit->Shared->Prop}(hu:A.units + 1 < cLine)(I:Inv X pins σ H s)(g:DPut H a y v H')(ry:RelV y u)(rv:RelV v r)(h:∀s',Inv X pins σ H' s'->Q () s') :
  wpAny (model X.prog X.w) A (setItem (.ref a) u r) Q E s:=by
 rcases g with ⟨kvs,k,e,ey,l,eH⟩|⟨kvs,k,b,e,ey,eb,l,eH⟩
 ·subst ey eH
  obtain⟨z,hd,vs,rel,dd⟩:=dk_of I.hok e
  have hz:vs.length<=sizeLine:=by rw[← rel.length];exact z
  have hl:(putK kvs k v).length<=sizeLine:=by have:=length_putK kvs k v;omega
  refine wpAny_setItem_pairs (hsz:=hz) (kV_is ry) dd fun h' dd' hs=>h _ ?_
  have he:∃q,h'.get? a=some q:=let ⟨q,_,_,hq,_⟩:=dd';⟨q,hq⟩
  exact d_write I (by rw[e];exact True.intro) hs he (dk_new hl hd (rel.put k rv) dd')
 ·subst ey eH
  cases (show u=Value.ref b from ry)
  obtain⟨z,hd,xs,rel,dd⟩:=dt_of I.hok e
  have hz:xs.length<=sizeLine:=by rw[← Paired.length rel];exact z
  have hl:(putK kvs k v).length<=sizeLine:=by have:=length_putK kvs k v;omega
  refine wpAny_setItem_heap (hsz:=hz) (tupleKind_room_in1 hu) (key_of I.hok eb) dd fun h' dd' hs=>h _ ?_
  obtain⟨q,es,ep,hq,h2,h3,h4,_,h5⟩:=dd'
  refine d_write I (by rw[e];exact True.intro) hs ⟨q,hq⟩ ⟨hl,hd,_,(rel.put k eb rv).keeps fun c ys ec=>?_,q,es,ep,hq,h2,h3,h4,h5⟩
  rw[upd_ne (ne_of ec e (fun z=>nomatch z))]
  exact ec
end
section
variable {X:Cx} {pins:List (Addr×Obj)} {σ:St} {H:Hp} {s:Shared} {a:Addr} {kvs:List (Key×V)} {k:Key} {u:Value} {A:Around} {E:Value->Shared->Prop}
theorem d_len{Q:Value->Shared->Prop}(I:Inv X pins σ H s)(e:Rd H a (.dK kvs))(h:∀t s',Inv X pins σ H s'->Q (.int kvs.length t) s'):wpAny (model X.prog X.w) A (call (.builtin "len") [.ref a]) Q E s:=by
 obtain⟨z,hd,vs,rel,dd⟩:=dk_rd I.hok e
 refine call_len_dict hd dd (by rw[← rel.length];rw[sizeLine_eq]at z;omega) ?_
 rw[← rel.length]
 exact h _ _ (I.tok _)
end
def sDPut(td ty tv:TE):TS:=fun D σ H=>tv σ H fun v H1=>td σ H1 fun x H2=>ty σ H2 fun y H3=>∃a H4,x=.ref a/\DPut H3 a y v H4/\D.nx σ H4
section
variable {X:Cx} {o i e value:Expr} {pos pos' tpos:Pos} {td ty tv:TE}
theorem ps_dput(hu:X.A.units + 1 < cLine)(ho:PE X o td)(hi:PE X i ty)(hv:PE X value tv)(hs:swapsWith value (some (.Subscript o i pos')) pos.line X.env=pure false) :
  PS X (.Assign [.Subscript o i pos'] value pos) (sDPut td ty tv):=by
 intro pins s σ H D I h
 refine wpAny_Assign_Subscript (thn (hv pins s σ H _ I h) fun r s1 ⟨v,H1,I1,rv,q1⟩=>thn (ho pins s1 σ H1 _ I1 q1) fun u s2 ⟨x,H2,I2,rx,q2⟩=>thn (hi pins s2 σ H2 _ I2 q2) fun iv s3 ⟨y,H3,I3,ry,a,H4,ex,g,q3⟩=>?_) hs
 subst ex
 obtain rfl:u=Value.ref a:=rx
 exact d_setItem hu I3 g ry rv fun s4 I4=>⟨σ,H4,I4,q3⟩
end
theorem dk_empty{P:Program}{w:World}{H:Hp}(h:Heap)(hb:sysModules < h.objs.size):ObjOk P w H (h.push {cls:=.type "dict", data:=.dict #[]}) h.objs.size (.dK []) :=
 ⟨Nat.zero_le _,beq_eq_false_iff_ne.mpr (Ne.symm (Nat.ne_of_lt hb)),[],.nil,Heap.DictOf.new h⟩
def tDNewK:TE:=fun _ H Q=>∀p,H p=none->Q (.ref p) (upd H p (.dK []))
section
variable {X:Cx} {pos:Pos}
theorem pe_dnewK:PE X (.Dict [] [] pos) tDNewK:=fun pins s σ H Q I h =>
 wpAny_Dict_empty ⟨.ref s.heap.objs.size,_,I.laid (a:=s.heap.objs.size) (o:=.dK []) (t':=s.toks) (fun _ _ q=>Heap.get?_push_of_some _ q) (Nat.le_refl _) (dk_empty s.heap I.big),rfl,h _ (I.hok.fresh (Nat.le_refl _))⟩
end
structure M1(X:Cx)(o:Expr)(m:Str)(apos:Pos)(e:Expr)(cpos:Pos):Prop where
 base:attributeBase o m X.env (eval o X.env)=eval o X.env
 few:((backTo cpos (starEach [e] X.env)).all (fun x=>!x.1)&&(backToKw cpos (keywordEach [] X.env)).all (fun x=>x.1.isSome)
  && decide (([e]:List Expr).length + ([]:List Keyword).length + (if ([]:List Keyword).isEmpty then 0 else 1) < 30))=true
 line:(apos.endLine==cpos.line)=true
 trees:backTo cpos (starEach [e] X.env)=[(false,eval e X.env)]
structure M2(X:Cx)(o:Expr)(m:Str)(apos:Pos)(e f:Expr)(cpos:Pos):Prop where
 base:attributeBase o m X.env (eval o X.env)=eval o X.env
 few:((backTo cpos (starEach [e,f] X.env)).all (fun x=>!x.1)&&(backToKw cpos (keywordEach [] X.env)).all (fun x=>x.1.isSome)
  && decide (([e,f]:List Expr).length + ([]:List Keyword).length + (if ([]:List Keyword).isEmpty then 0 else 1) < 30))=true
 line:(apos.endLine==cpos.line)=true
 trees:backTo cpos (starEach [e,f] X.env)=[(false,eval e X.env),(false,eval f X.env)]
section
variable {X:Cx} {pins:List (Addr×Obj)} {σ:St} {H:Hp} {s:Shared} {a:Addr} {y d:V} {u r:Value} {o:Option V} {A:Around} {E:Value->Shared->Prop}
end
section
variable {X:Cx} {o e f:Expr} {apos cpos:Pos} {td ty tx:TE}
end
section
variable {X:Cx} {pins:List (Addr×Obj)} {σ:St} {H:Hp} {s:Shared} {a:Addr} {kvs:List (Key×V)} {A:Around} {E:Value->Shared->Prop}
end
section
variable {X:Cx} {pins:List (Addr×Obj)} {σ:St} {H:Hp} {s:Shared} {a:Addr} {y:V} {u:Value} {A:Around} {E:Value->Shared->Prop}
end
end L2
namespace L2
open PySem PySem.Spec PyProof.Rows
section
variable {κ:Type} [DecidableEq κ]
end
end L2
end
section
namespace TL
open PySem PySem.Spec PyProof.Rows L2
abbrev St:=L2.St
def nst:Expr->Bool
 | .Starred _ _=>false
 | _=>true
theorem star1{e:Expr}{es:List Expr}{env:Env}(h:nst e=true):starEach (e::es) env=(false,eval e env)::starEach es env:=by
 cases e<;>first|rfl|cases h
theorem stars{env:Env}{pos:Pos}:∀{es:List Expr},es.all nst=true->(backTo pos (starEach es env)).any (·.1)=false
 | [],_=>rfl
 | e::es,h=>by
  rw[List.all_cons,Bool.and_eq_true]at h
  rw[star1 h.1]
  show (false||(backTo pos (starEach es env)).any (·.1))=false
  rw[stars h.2]
  rfl
inductive T where
 | non|bl (b:Bool)|int (i:Int)|str (x:Str)|tup (ts:List T)|lst (ts:List T)|dct|exc (c:Str)|exf (c f:Str) (t:T)|dic (ks:List Int) (ts:List T)
abbrev kn(o:Obj):HO:=.frz o (.ext fun _=>True)
abbrev noDict:Obj:={cls:=.type "dict", data:=.dict #[] 0}
structure ExcAt(K:PySem.W.Frag)(H:Hp)(c:Str)(p:Addr):Prop where
 ex:∃(o:Obj) (C:Addr) (ws:Array Value),H p=some (kn o)/\o.cls=.ref C/\o.data=.fields ws/\PySem.W.nsIn K mainGlobals c=some (some (.ref C))
structure ExfAt(K:PySem.W.Frag)(H:Hp)(c f:Str)(p d:Addr)(od:Obj)(u:Value):Prop where
 ex:∃(o:Obj) (C:Addr) (ws:Array Value),H p=some (kn o)/\o.cls=.ref C/\o.data=.fields ws/\o.dict=some d/\PySem.W.nsIn K mainGlobals c=some (some (.ref C))
 dict:H d=some (kn od)
 look:PySem.W.lookIn f od=some (some u)
def SqF(K:PySem.W.Frag)(H:Hp)(a:Addr)(xs:List V):Prop :=
 (∃o,H a=some (.frz o (.lst xs))) ∨
  ∃(o:Obj) (its:Array Value) (n:Nat),K.lookup a=some o/\o.cls=.type "list" /\ o.dict=none/\o.data=.seq its n/\its.size<=sizeLine/\Vals xs its.toList
abbrev IntP:=Int×V
def toK(q:IntP):Key×V:=(.inl q.1,q.2)
mutual
def Rep(K:PySem.W.Frag)(H:Hp):T->V->Prop
 | .non,v=>v=.non
 | .bl b,v=>v=.bl b
 | .int i,v=>v=.int i
 | .str x,v=>v=.str x
 | .tup ts,v=>∃p vs,v=.ref p/\SqT K H p vs/\Reps K H ts vs
 | .lst ts,v=>∃p vs,v=.ref p/\SqF K H p vs/\Reps K H ts vs
 | .dct,v=>∃p,v=.ref p/\H p=some (kn noDict)
 | .exc c,v=>∃p,v=.ref p/\ExcAt K H c p
 | .exf c f t,v=>∃p,v=.ref p/\∃d od u y,ExfAt K H c f p d od u/\RelV y u/\Rep K H t y
 | .dic ks ts,v=>∃(p:Addr) (o:Obj) (kvs:List (Int×V)),v=.ref p/\H p=some (.frz o (.dK (kvs.map toK)))/\kvs.map (·.1)=ks/\Reps K H ts (kvs.map (·.2))
def Reps(K:PySem.W.Frag)(H:Hp):List T->List V->Prop
 | [],vs=>vs=[]
 | t::ts,vs=>∃v r,vs=v::r/\Rep K H t v/\Reps K H ts r
end
structure Kp(H H':Hp):Prop where
 tup:∀b xs,H b=some (.tup xs)->H' b=some (.tup xs)
 frz:∀b o u,H b=some (.frz o u)->H' b=some (.frz o u)
theorem Kp.refl(H:Hp):Kp H H:=⟨fun _ _ h=>h,fun _ _ _ h=>h⟩
theorem Kp.trans{H H1 H2:Hp}(a:Kp H H1)(b:Kp H1 H2):Kp H H2:=⟨fun c xs h=>b.tup c xs (a.tup c xs h),fun c o u h=>b.frz c o u (a.frz c o u h)⟩
theorem Kp.of{H H':Hp}(s:Same H H'):Kp H H':=⟨fun b _ h=>s b _ h,fun b _ _ h=>s b _ h⟩
theorem same_new{H:Hp}{p:Addr}(h:H p=none)(o:HO):Same H (upd H p o):=fun b u q=>by rw[upd_ne (ne_of_none q h)];exact q
theorem Kp.write{H:Hp}{p:Addr}{xs:List V}(h:H p=some (.lst xs))(o:HO):Kp H (upd H p o) :=
 ⟨fun b ys q=>by rw[upd_ne (by rintro rfl;rw[h]at q;cases q)];exact q,fun b ob u q=>by rw[upd_ne (by rintro rfl;rw[h]at q;cases q)];exact q⟩
section
variable {K:PySem.W.Frag} {H H':Hp}
theorem SqF.sq{a:Addr}{xs:List V}(h:SqF K H a xs):SqL K H a xs:=h.elim (fun ⟨o,e⟩=>.inl (.inr ⟨o,e⟩)) .inr
theorem sqF_kp{a:Addr}{xs:List V}(k:Kp H H')(h:SqF K H a xs):SqF K H' a xs:=h.elim (fun ⟨o,e⟩=>.inl ⟨o,k.frz _ _ _ e⟩) .inr
theorem sqT_kp{a:Addr}{xs:List V}(k:Kp H H')(h:SqT K H a xs):SqT K H' a xs:=by
 rcases h with (h|⟨o,h⟩)|h
 ·exact .inl (.inl (k.tup _ _ h))
 ·exact .inl (.inr ⟨o,k.frz _ _ _ h⟩)
 ·exact .inr h
theorem rep_tup{ts:List T}{v:V}:Rep K H (.tup ts) v ↔ ∃p vs,v=.ref p/\SqT K H p vs/\Reps K H ts vs:=by rw[Rep]
theorem rep_lst{ts:List T}{v:V}:Rep K H (.lst ts) v ↔ ∃p vs,v=.ref p/\SqF K H p vs/\Reps K H ts vs:=by rw[Rep]
theorem rep_int{i:Int}{v:V}:Rep K H (.int i) v ↔ v=.int i:=by rw[Rep]
theorem rep_bl{i:Bool}{v:V}:Rep K H (.bl i) v ↔ v=.bl i:=by rw[Rep]
theorem rep_str{i:Str}{v:V}:Rep K H (.str i) v ↔ v=.str i:=by rw[Rep]
theorem rep_non{v:V}:Rep K H .non v ↔ v=.non:=by rw[Rep]
theorem rep_dct{v:V}:Rep K H .dct v ↔ ∃p,v=.ref p/\H p=some (kn noDict):=by rw[Rep]
theorem rep_exc{c:Str}{v:V}:Rep K H (.exc c) v ↔ ∃p,v=.ref p/\ExcAt K H c p:=by rw[Rep]
theorem rep_exf{c f:Str}{t:T}{v:V}:Rep K H (.exf c f t) v ↔ ∃p,v=.ref p/\∃d od u y,ExfAt K H c f p d od u/\RelV y u/\Rep K H t y:=by rw[Rep]
theorem rep_dic{ks:List Int}{ts:List T}{v:V}:Rep K H (.dic ks ts) v ↔ ∃(p:Addr) (o:Obj) (kvs:List (Int×V)),v=.ref p/\H p=some (.frz o (.dK (kvs.map toK)))/\kvs.map (·.1)=ks/\Reps K H ts (kvs.map (·.2)):=by rw[Rep]
theorem ExfAt.kp{c f:Str}{p d:Addr}{od:Obj}{u:Value}(k:Kp H H')(h:ExfAt K H c f p d od u):ExfAt K H' c f p d od u:=let ⟨o,C,ws,e,r⟩:=h.ex;⟨⟨o,C,ws,k.frz _ _ _ e,r⟩,k.frz _ _ _ h.dict,h.look⟩
theorem ExcAt.kp{c:Str}{p:Addr}(k:Kp H H')(h:ExcAt K H c p):ExcAt K H' c p:=let ⟨o,C,ws,e,r⟩:=h.ex;⟨o,C,ws,k.frz _ _ _ e,r⟩
theorem reps_nil{vs:List V}:Reps K H [] vs ↔ vs=[]:=by rw[Reps]
theorem reps_cons{t:T}{ts:List T}{vs:List V}:Reps K H (t::ts) vs ↔ ∃v r,vs=v::r/\Rep K H t v/\Reps K H ts r:=by rw[Reps]
mutual
theorem Rep.kp(k:Kp H H'):∀{t:T}{v:V},Rep K H t v->Rep K H' t v
 | .non,v,h=>by rw[rep_non]at h ⊢;exact h
 | .bl b,v,h=>by rw[rep_bl]at h ⊢;exact h
 | .int i,v,h=>by rw[rep_int]at h ⊢;exact h
 | .str x,v,h=>by rw[rep_str]at h ⊢;exact h
 | .tup ts,v,h=>by
  rw[rep_tup]at h ⊢
  obtain⟨p,vs,e,s,r⟩:=h
  exact⟨p,vs,e,sqT_kp k s,Reps.kp k r⟩
 | .lst ts,v,h=>by
  rw[rep_lst]at h ⊢
  obtain⟨p,vs,e,s,r⟩:=h
  exact⟨p,vs,e,sqF_kp k s,Reps.kp k r⟩
 | .dct,v,h=>by
  rw[rep_dct]at h ⊢
  obtain⟨p,e,q⟩:=h
  exact⟨p,e,k.frz _ _ _ q⟩
 | .exc c,v,h=>by
  rw[rep_exc]at h ⊢
  obtain⟨p,e,q⟩:=h
  exact⟨p,e,q.kp k⟩
 | .exf c f t,v,h=>by
  rw[rep_exf]at h ⊢
  obtain⟨p,e,d,od,u,y,q,r,a⟩:=h
  exact⟨p,e,d,od,u,y,q.kp k,r,Rep.kp k a⟩
 | .dic ks ts,v,h=>by
  rw[rep_dic]at h ⊢
  obtain⟨p,o,kvs,e,q,ek,r⟩:=h
  exact⟨p,o,kvs,e,k.frz _ _ _ q,ek,Reps.kp k r⟩
theorem Reps.kp(k:Kp H H'):∀{ts:List T}{vs:List V},Reps K H ts vs->Reps K H' ts vs
 | [],vs,h=>by rw[reps_nil]at h ⊢;exact h
 | t::ts,vs,h=>by
  rw[reps_cons]at h ⊢
  obtain⟨v,r,e,a,b⟩:=h
  exact⟨v,r,e,Rep.kp k a,Reps.kp k b⟩
end
theorem Reps.length:∀{ts:List T}{vs:List V},Reps K H ts vs->vs.length=ts.length
 | [],vs,h=>by rw[reps_nil]at h;subst h;rfl
 | t::ts,vs,h=>by
  rw[reps_cons]at h
  obtain⟨v,r,e,a,b⟩:=h
  subst e
  simp[Reps.length b]
theorem Reps.get:∀{ts:List T}{vs:List V}{i:Nat}{t:T},Reps K H ts vs->ts[i]?=some t->∃v,vs[i]?=some v/\Rep K H t v
 | [],vs,i,t,h,e=>by simp at e
 | t::ts,vs,0,t',h,e=>by
  rw[reps_cons]at h
  obtain⟨v,r,rfl,a,b⟩:=h
  simp at e
  subst e
  exact⟨v,rfl,a⟩
 | t::ts,vs,i + 1,t',h,e=>by
  rw[reps_cons]at h
  obtain⟨v,r,rfl,a,b⟩:=h
  obtain⟨u,h1,h2⟩:=Reps.get (i:=i) b (by simpa using e)
  exact⟨u,by simpa using h1,h2⟩
theorem Reps.append:∀{ts us:List T}{vs ws:List V},Reps K H ts vs->Reps K H us ws->Reps K H (ts++us) (vs++ws)
 | [],us,vs,ws,h,q=>by rw[reps_nil]at h;subst h;exact q
 | t::ts,us,vs,ws,h,q=>by
  rw[reps_cons]at h
  obtain⟨v,r,rfl,a,b⟩:=h
  show Reps K H (t::(ts++us)) (v::(r++ws))
  rw[reps_cons]
  exact⟨v,_,rfl,a,Reps.append b q⟩
theorem Reps.one{t:T}{v:V}(h:Rep K H t v):Reps K H [t] [v]:=by
 rw[reps_cons]
 exact⟨v,[],rfl,h,reps_nil.mpr rfl⟩
theorem Reps.cons{t:T}{v:V}{ts:List T}{vs:List V}(h:Rep K H t v)(r:Reps K H ts vs):Reps K H (t::ts) (v::vs):=by
 rw[reps_cons]
 exact⟨v,vs,rfl,h,r⟩
theorem Reps.take:∀{ts:List T}{vs:List V}(n:Nat),Reps K H ts vs->Reps K H (ts.take n) (vs.take n)
 | [],vs,n,h=>by rw[reps_nil]at h;subst h;simp[reps_nil]
 | t::ts,vs,0,h=>by simp[reps_nil]
 | t::ts,vs,n + 1,h=>by
  rw[reps_cons]at h
  obtain⟨v,r,rfl,a,b⟩:=h
  exact Reps.cons a (Reps.take n b)
theorem Reps.drop:∀{ts:List T}{vs:List V}(n:Nat),Reps K H ts vs->Reps K H (ts.drop n) (vs.drop n)
 | ts,vs,0,h=>by simpa using h
 | [],vs,n + 1,h=>by rw[reps_nil]at h;subst h;simp[reps_nil]
 | t::ts,vs,n + 1,h=>by
  rw[reps_cons]at h
  obtain⟨v,r,rfl,a,b⟩:=h
  exact Reps.drop n b
theorem reps_ints(ns:List Int):Reps K H (ns.map T.int) (ns.map V.int):=by
 induction ns with
 | nil=>exact reps_nil.mpr rfl
 | cons n r ih=>exact Reps.cons (rep_int.mpr rfl) ih
end
inductive Slot where
 | no|val (t:T)|own (ts:List T)|see (ts:List T)|dic (ps:List (Int×T))|vat (t:T) (v:V)|owd (p:Addr) (kvs:List (Key×T))
def sget:List Slot->Nat->Slot
 | [],_=>.no
 | s::_,0=>s
 | _::r,n + 1=>sget r n
def sput:List Slot->Nat->Slot->List Slot
 | [],_,_=>[]
 | _::r,0,x=>x::r
 | s::r,n + 1,x=>s::sput r n x
theorem length_sput:∀(τ:List Slot)(i:Nat)(x:Slot),(sput τ i x).length=τ.length
 | [],_,_=>rfl
 | _::_,0,_=>rfl
 | _::r,n + 1,x=>by simp[sput,length_sput r n x]
theorem sget_same:∀{τ:List Slot}{i:Nat}{x:Slot},i < τ.length->sget (sput τ i x) i=x
 | [],_,_,h=>by simp at h
 | _::_,0,_,_=>rfl
 | _::r,n + 1,x,h=>by simp only[sput,sget];exact sget_same (by simpa using h)
theorem sget_ne:∀{τ:List Slot}{i j:Nat}{x:Slot},i≠j->sget (sput τ i x) j=sget τ j
 | [],_,_,_,_=>rfl
 | _::_,0,0,_,h=>absurd rfl h
 | _::_,0,_ + 1,_,_=>rfl
 | _::_,_ + 1,0,_,_=>rfl
 | _::r,i + 1,j + 1,x,h=>by simp only[sput,sget];exact sget_ne (by omega)
theorem sget_big:∀{τ:List Slot}{i:Nat},τ.length<=i->sget τ i=.no
 | [],_,_=>rfl
 | _::r,0,h=>by simp at h
 | _::r,i + 1,h=>by simp only[sget];exact sget_big (by simpa using h)
def SlotOk(K:PySem.W.Frag)(H0 H:Hp):Slot->Option (Option V)->Prop
 | .no,_=>True
 | .val t,sv=>∃v,sv=some (some v)/\Rep K H t v
 | .own ts,sv=>∃p vs,sv=some (some (.ref p))/\H p=some (.lst vs)/\Reps K H ts vs/\H0 p=none
 | .see ts,sv=>∃p vs,sv=some (some (.ref p))/\H p=some (.lst vs)/\Reps K H ts vs/\H0 p≠none
 | .dic ps,sv=>∃(p:Addr) (o:Obj) (kvs:List (Int×V)),sv=some (some (.ref p))/\H p=some (.frz o (.dK (kvs.map toK)))/\kvs.map (·.1)=ps.map (·.1)/\Reps K H (ps.map (·.2)) (kvs.map (·.2))
 | .vat t v,sv=>sv=some (some v)/\Rep K H t v
 | .owd p kvs,sv=>sv=some (some (.ref p))/\(∃vs:List (Key×V),H p=some (.dK vs)/\vs.map (·.1)=kvs.map (·.1)/\Reps K H (kvs.map (·.2)) (vs.map (·.2)))/\H0 p=none
structure RepSt(K:PySem.W.Frag)(H0 H:Hp)(σ:St)(τ:List Slot):Prop where
 same:Same H0 H
 len:τ.length=σ.length
 slot:∀i,SlotOk K H0 H (sget τ i) (σ[i]?)
 apart:∀i j ts us p,i≠j->sget τ i=.own ts->sget τ j=.own us->σ[i]?=some (some (.ref p))->σ[j]?=some (some (.ref p))->False
section
variable {K:PySem.W.Frag} {H0 H H':Hp} {σ:St} {τ:List Slot}
theorem SlotOk.mono{s:Slot}{sv:Option (Option V)}(k:Same H H')(h:SlotOk K H0 H s sv):SlotOk K H0 H' s sv:=by
 cases s with
 | no=>trivial
 | val t=>obtain⟨v,e,r⟩:=h;exact⟨v,e,r.kp (.of k)⟩
 | own ts=>obtain⟨p,vs,e,h1,r,n⟩:=h;exact⟨p,vs,e,k _ _ h1,r.kp (.of k),n⟩
 | see ts=>obtain⟨p,vs,e,h1,r,n⟩:=h;exact⟨p,vs,e,k _ _ h1,r.kp (.of k),n⟩
 | dic ps=>obtain⟨p,o,kvs,e,h1,ek,r⟩:=h;exact⟨p,o,kvs,e,k _ _ h1,ek,r.kp (.of k)⟩
 | vat t v=>exact⟨h.1,h.2.kp (.of k)⟩
 | owd p kvs=>obtain⟨e,⟨vs,h1,ek,r⟩,n⟩:=h;exact⟨e,⟨vs,k _ _ h1,ek,r.kp (.of k)⟩,n⟩
theorem RepSt.mono(R:RepSt K H0 H σ τ)(k:Same H H'):RepSt K H0 H' σ τ :=
 ⟨R.same.trans k,R.len,fun i=>(R.slot i).mono k,R.apart⟩
theorem RepSt.put{i:Nat}{t:T}{v:V}(R:RepSt K H0 H σ τ)(r:Rep K H t v):RepSt K H0 H (σ.set i (some v)) (sput τ i (.val t)):=by
 refine⟨R.same,by rw[length_sput,List.length_set];exact R.len,fun j=>?_,fun a b ts us p hab ha hb ea eb=>?_⟩
 ·by_cases hij:i=j
  ·subst hij
   by_cases hi:i < τ.length
   ·rw[sget_same hi]
    exact⟨v,List.getElem?_set_self (by rw[← R.len];exact hi),r⟩
   ·rw[sget_big (by rw[length_sput];omega)]
    trivial
  ·rw[sget_ne hij,List.getElem?_set_ne hij]
   exact R.slot j
 ·have na:i≠a:=by
   rintro rfl
   by_cases hi:i < τ.length
   ·rw[sget_same hi]at ha;cases ha
   ·rw[sget_big (by rw[length_sput];omega)]at ha;cases ha
  have nb:i≠b:=by
   rintro rfl
   by_cases hi:i < τ.length
   ·rw[sget_same hi]at hb;cases hb
   ·rw[sget_big (by rw[length_sput];omega)]at hb;cases hb
  rw[sget_ne na]at ha
  rw[sget_ne nb]at hb
  rw[List.getElem?_set_ne na]at ea
  rw[List.getElem?_set_ne nb]at eb
  exact R.apart a b ts us p hab ha hb ea eb
theorem RepSt.putOwn{i:Nat}{ts:List T}{vs:List V}{p:Addr}(R:RepSt K H0 H σ τ)(hp:H p=none)(r:Reps K H ts vs):RepSt K H0 (upd H p (.lst vs)) (σ.set i (some (.ref p))) (sput τ i (.own ts)):=by
 have S:=same_new hp (.lst vs)
 refine⟨R.same.trans S,by rw[length_sput,List.length_set];exact R.len,fun j=>?_,fun a b ts' us q hab ha hb ea eb=>?_⟩
 ·by_cases hij:i=j
  ·subst hij
   by_cases hi:i < τ.length
   ·rw[sget_same hi]
    exact⟨p,vs,List.getElem?_set_self (by rw[← R.len];exact hi),upd_same,r.kp (.of S),R.same.free hp⟩
   ·rw[sget_big (by rw[length_sput];omega)]
    trivial
  ·rw[sget_ne hij,List.getElem?_set_ne hij]
   exact(R.slot j).mono S
 ·-- an elder own list stands at a tracked place,the new one did not
  have old:∀c ts,i≠c->sget (sput τ i (.own ts')) c=.own ts->σ[c]?≠some (some (.ref p)):=fun c ts hc hcs e=>by
   rw[sget_ne hc]at hcs
   have:=R.slot c
   rw[hcs]at this
   obtain⟨p',vs',e',h1,_⟩:=this
   rw[e]at e'
   cases e'
   rw[hp]at h1
   cases h1
  have isI:∀c,i=c->∀us,sget (sput τ i (.own ts)) c=.own us->(σ.set i (some (.ref p)))[c]?=some (some (.ref p)):=fun c hc us hcs=>by
   subst hc
   by_cases hi:i < τ.length
   ·exact List.getElem?_set_self (by rw[← R.len];exact hi)
   ·rw[sget_big (by rw[length_sput];omega)]at hcs;cases hcs
  by_cases ia:i=a
  ·have z:=isI a ia _ ha
   rw[z]at ea
   cases ea
   have ib:i≠b:=fun e=>hab (ia.symm.trans e)
   rw[List.getElem?_set_ne ib]at eb
   refine old b us ib ?_ eb
   rw[sget_ne ib]at hb ⊢
   exact hb
  ·rw[List.getElem?_set_ne ia]at ea
   by_cases ib:i=b
   ·have z:=isI b ib _ hb
    rw[z]at eb
    cases eb
    refine old a ts' ia ?_ ea
    rw[sget_ne ia]at ha ⊢
    exact ha
   ·rw[List.getElem?_set_ne ib]at eb
    rw[sget_ne ia]at ha
    rw[sget_ne ib]at hb
    exact R.apart a b ts' us q hab ha hb ea eb
theorem RepSt.write{i:Nat}{ts ts2:List T}{vs2:List V}{p:Addr}{xs:List V}(R:RepSt K H0 H σ τ)(hs:sget τ i=.own ts)(hσ:σ[i]?=some (some (.ref p)))(hp:H p=some (.lst xs))(r:Reps K H ts2 vs2) :
  RepSt K H0 (upd H p (.lst vs2)) σ (sput τ i (.own ts2)):=by
 have k:=Kp.write hp (.lst vs2)
 have n0:H0 p=none:=by
  have:=R.slot i
  rw[hs]at this
  obtain⟨p',vs',e',_,_,n⟩:=this
  rw[hσ]at e'
  cases e'
  exact n
 have hi:i < τ.length:=by
  by_cases hi:i < τ.length
  ·exact hi
  ·rw[sget_big (by omega)]at hs;cases hs
 refine⟨fun b o h=>?_,by rw[length_sput];exact R.len,fun j=>?_,fun a b ts' us q hab ha hb ea eb=>?_⟩
 ·have:=R.same b o h
  rw[upd_ne (by rintro rfl;rw[n0]at h;cases h)]
  exact this
 ·by_cases hij:i=j
  ·subst hij
   rw[sget_same hi]
   exact⟨p,vs2,hσ,upd_same,r.kp k,n0⟩
  ·rw[sget_ne hij]
   have sl:=R.slot j
   cases e:sget τ j with
   | no=>trivial
   | val t=>rw[e]at sl;obtain⟨v,e1,r1⟩:=sl;exact⟨v,e1,r1.kp k⟩
   | dic ps=>rw[e]at sl;obtain⟨q,o,kvs,e1,h1,ek,r1⟩:=sl;exact⟨q,o,kvs,e1,k.frz _ _ _ h1,ek,r1.kp k⟩
   | vat t v=>rw[e]at sl;exact⟨sl.1,sl.2.kp k⟩
   | owd q kvs=>rw[e]at sl;obtain⟨e1,⟨ws,h1,ek,r1⟩,n1⟩:=sl;exact⟨e1,⟨ws,by rw[upd_ne (by rintro rfl;rw[hp]at h1;cases h1)];exact h1,ek,r1.kp k⟩,n1⟩
   | own us =>
    rw[e]at sl
    obtain⟨q,ws,e1,h1,r1,n1⟩:=sl
    have nq:q≠p:=by rintro rfl;exact R.apart i j ts us q hij hs e hσ e1
    exact⟨q,ws,e1,by rw[upd_ne nq];exact h1,r1.kp k,n1⟩
   | see us =>
    rw[e]at sl
    obtain⟨q,ws,e1,h1,r1,n1⟩:=sl
    have nq:q≠p:=by rintro rfl;exact n1 n0
    exact⟨q,ws,e1,by rw[upd_ne nq];exact h1,r1.kp k,n1⟩
 ·have old:∀c us,sget (sput τ i (.own ts2)) c=.own us->∃us',sget τ c=.own us':=fun c us h=>by
   by_cases hc:i=c
   ·subst hc;exact⟨ts,hs⟩
   ·rw[sget_ne hc]at h;exact⟨us,h⟩
  obtain⟨u1,h1⟩:=old a _ ha
  obtain⟨u2,h2⟩:=old b _ hb
  exact R.apart a b u1 u2 q hab h1 h2 ea eb
theorem RepSt.freeze{i:Nat}{ts:List T}{vs:List V}{p:Addr}{o:Obj}(R:RepSt K H0 H σ τ)(hs:sget τ i=.own ts)(hσ:σ[i]?=some (some (.ref p)))(hp:H p=some (.lst vs))(r:Reps K H ts vs) :
  RepSt K H0 (upd H p (.frz o (.lst vs))) σ (sput τ i (.val (.lst ts))):=by
 have k:=Kp.write hp (.frz o (.lst vs))
 have n0:H0 p=none:=by
  have:=R.slot i
  rw[hs]at this
  obtain⟨p',vs',e',_,_,n⟩:=this
  rw[hσ]at e'
  cases e'
  exact n
 have hi:i < τ.length:=by
  by_cases hi:i < τ.length
  ·exact hi
  ·rw[sget_big (by omega)]at hs;cases hs
 refine⟨fun b o' h=>?_,by rw[length_sput];exact R.len,fun j=>?_,fun a b ts' us q hab ha hb ea eb=>?_⟩
 ·have:=R.same b o' h
  rw[upd_ne (by rintro rfl;rw[n0]at h;cases h)]
  exact this
 ·by_cases hij:i=j
  ·subst hij
   rw[sget_same hi]
   exact⟨.ref p,hσ,rep_lst.mpr ⟨p,vs,rfl,.inl ⟨o,upd_same⟩,r.kp k⟩⟩
  ·rw[sget_ne hij]
   have sl:=R.slot j
   cases e:sget τ j with
   | no=>trivial
   | val t=>rw[e]at sl;obtain⟨v,e1,r1⟩:=sl;exact⟨v,e1,r1.kp k⟩
   | dic ps=>rw[e]at sl;obtain⟨q,o,kvs,e1,h1,ek,r1⟩:=sl;exact⟨q,o,kvs,e1,k.frz _ _ _ h1,ek,r1.kp k⟩
   | vat t v=>rw[e]at sl;exact⟨sl.1,sl.2.kp k⟩
   | owd q kvs=>rw[e]at sl;obtain⟨e1,⟨ws,h1,ek,r1⟩,n1⟩:=sl;exact⟨e1,⟨ws,by rw[upd_ne (by rintro rfl;rw[hp]at h1;cases h1)];exact h1,ek,r1.kp k⟩,n1⟩
   | own us =>
    rw[e]at sl
    obtain⟨q,ws,e1,h1,r1,n1⟩:=sl
    have nq:q≠p:=by rintro rfl;exact R.apart i j ts us q hij hs e hσ e1
    exact⟨q,ws,e1,by rw[upd_ne nq];exact h1,r1.kp k,n1⟩
   | see us =>
    rw[e]at sl
    obtain⟨q,ws,e1,h1,r1,n1⟩:=sl
    have nq:q≠p:=by rintro rfl;exact n1 n0
    exact⟨q,ws,e1,by rw[upd_ne nq];exact h1,r1.kp k,n1⟩
 ·have na:i≠a:=by
   rintro rfl
   rw[sget_same hi]at ha
   cases ha
  have nb:i≠b:=by
   rintro rfl
   rw[sget_same hi]at hb
   cases hb
  rw[sget_ne na]at ha
  rw[sget_ne nb]at hb
  exact R.apart a b ts' us q hab ha hb ea eb
end
abbrev WE:=List Slot->(T->Prop)->Prop
abbrev WT:=List Slot->(Bool->Prop)->Prop
abbrev WA:=List Slot->(List T->Prop)->Prop
structure DT where
 nx:List Slot->Prop
 rt:T->Prop
 bk:List Slot->Prop:=fun _=>False
 ct:List Slot->Prop:=fun _=>False
abbrev WS:=DT->List Slot->Prop
def up(K:PySem.W.Frag)(H0:Hp)(w:WE):TE:=fun σ H Q=>∃(τ:List Slot) (Q0:T->Prop),RepSt K H0 H σ τ/\w τ Q0/\∀t v H',Same H H'->Rep K H' t v->Q0 t->Q v H'
def upT(K:PySem.W.Frag)(H0:Hp)(w:WT):TT:=fun σ H Q=>∃(τ:List Slot) (Q0:Bool->Prop),RepSt K H0 H σ τ/\w τ Q0/\∀b H',Same H H'->Q0 b->Q b H'
def upA(K:PySem.W.Frag)(H0:Hp)(w:WA):TA:=fun σ H Q=>∃(τ:List Slot) (Q0:List T->Prop),RepSt K H0 H σ τ/\w τ Q0/\∀ts vs H',Same H H'->Reps K H' ts vs->Q0 ts->Q vs H'
def upS(K:PySem.W.Frag)(H0:Hp)(w:WS):TS:=fun D σ H=>∃(τ:List Slot) (D0:DT),RepSt K H0 H σ τ/\w D0 τ ∧
 (∀τ' σ' H',Kp H H'->RepSt K H0 H' σ' τ'->D0.nx τ'->D.nx σ' H')/\(∀t v H',Same H0 H'->Rep K H' t v->D0.rt t->D.rt v H') ∧
 (∀τ' σ' H',Kp H H'->RepSt K H0 H' σ' τ'->D0.bk τ'->D.bk σ' H')/\(∀τ' σ' H',Kp H H'->RepSt K H0 H' σ' τ'->D0.ct τ'->D.ct σ' H')
def JE(X:Cx)(e:Expr)(w:WE):Prop:=PE X e (up X.K X.H₀ w)
def JT(X:Cx)(e:Expr)(w:WT):Prop:=PT X e (upT X.K X.H₀ w)
def JA(X:Cx)(es:List Expr)(w:WA):Prop:=PA X es (upA X.K X.H₀ w)
def JS(X:Cx)(st:Stmt)(w:WS):Prop:=PS X st (upS X.K X.H₀ w)
def JSs(X:Cx)(st:List Stmt)(w:WS):Prop:=PSs X st (upS X.K X.H₀ w)
theorem pe_of{X:Cx}{e:Expr}{t t':TE}(h:PE X e t)(f:∀σ H Q,t' σ H Q->t σ H Q):PE X e t':=fun pins s σ H Q I hw=>h pins s σ H Q I (f σ H Q hw)
theorem pt_of{X:Cx}{e:Expr}{t t':TT}(h:PT X e t)(f:∀σ H Q,t' σ H Q->t σ H Q):PT X e t':=fun pins s σ H Q I hw=>h pins s σ H Q I (f σ H Q hw)
theorem pw_of{X:Cx}{e:Expr}{t t':TT}(h:PW X e t)(f:∀σ H Q,t' σ H Q->t σ H Q):PW X e t':=fun wh pins s σ H Q I hw=>h wh pins s σ H Q I (f σ H Q hw)
theorem pa_of{X:Cx}{es:List Expr}{t t':TA}(h:PA X es t)(f:∀σ H Q,t' σ H Q->t σ H Q):PA X es t':=fun pos pins s σ H Q I hw=>h pos pins s σ H Q I (f σ H Q hw)
theorem ps_of{X:Cx}{st:Stmt}{t t':TS}(h:PS X st t)(f:∀D σ H,t' D σ H->t D σ H):PS X st t':=fun pins s σ H D I hw=>h pins s σ H D I (f D σ H hw)
theorem pss_of{X:Cx}{st:List Stmt}{t t':TS}(h:PSs X st t)(f:∀D σ H,t' D σ H->t D σ H):PSs X st t':=fun pins s σ H D I hw=>h pins s σ H D I (f D σ H hw)
end TL
end
section
namespace TL
open PySem PySem.Spec PyProof.Rows L2
section
variable {X:Cx} {a b c e:Expr} {es:List Expr} {wa wb wc w:WE} {pos:Pos}
def wVar(i:Nat):WE:=fun τ Q=>match sget τ i with | .val t=>Q t | .vat t _=>Q t|_=>False
def wC(t:T):WE:=fun _ Q=>Q t
theorem je_of_var{i:Nat}(h:PE X e (tVar i)):JE X e (wVar i):=pe_of h fun σ H Q ⟨τ,Q0,R,hw,k⟩=>by
 have s:=R.slot i
 unfold wVar at hw
 cases z:sget τ i with
 | no=>rw[z]at hw;exact hw.elim
 | own ts=>rw[z]at hw;exact hw.elim
 | see ts=>rw[z]at hw;exact hw.elim
 | dic ts=>rw[z]at hw;exact hw.elim
 | owd p q=>rw[z]at hw;exact hw.elim
 | vat t v =>
  rw[z]at hw s
  exact⟨v,s.1,k t v H (.refl H) s.2 hw⟩
 | val t =>
  rw[z]at hw s
  obtain⟨v,ev,r⟩:=s
  exact⟨v,ev,k t v H (.refl H) r hw⟩
theorem jv(i:Nat){x:Str}{pos:Pos}(hN:X.N[i]?=some x:=by rfl)(hv:Vis X.env.scope x:=by first|exact Or.inl rfl|exact Or.inr (Or.inl rfl)|exact Or.inr (Or.inr rfl)) (hd:(x==("__debug__" : Str))=false:=by decide)
  (hcd:(x==("__classdict__" : Str))=false:=by decide):JE X (.Name x pos) (wVar i):=je_of_var (pe_var hN hv hd hcd)
theorem je_const{v:V}{t:T}(h:PE X e (tC v))(r:∀H,Rep X.K H t v):JE X e (wC t):=pe_of h fun σ H Q ⟨τ,Q0,R,hw,k⟩=>k t v H (.refl H) (r H) hw
theorem ji{i j pos}:JE X (.Constant (.int i) j pos) (wC (.int i)):=je_const pe_int fun _=>rep_int.mpr rfl
theorem jb{b j pos}:JE X (.Constant (.bool b) j pos) (wC (.bl b)):=je_const pe_bl fun _=>rep_bl.mpr rfl
theorem jn{j pos}:JE X (.Constant .none j pos) (wC .non):=je_const pe_non fun _=>rep_non.mpr rfl
theorem js{x j pos}:JE X (.Constant (.str x) j pos) (wC (.str x)):=je_const pe_str fun _=>rep_str.mpr rfl
theorem jglob{x:Str}{v:V}{u:Value}{t:T}{pos:Pos}(hg:Gl X x)(hm:X.mg x=some u)(r:RelV v u)(q:∀H,Rep X.K H t v) (hd:(x==("__debug__" : Str))=false:=by decide):JE X (.Name x pos) (wC t) :=
 je_const (pe_glob hg hm r hd) q
def w2(r:T->T->(T->Prop)->Prop)(wa wb:WE):WE:=fun τ Q=>wa τ fun x=>wb τ fun y=>r x y Q
def BR(X:Cx)(op:Operator)(rT:T->T->(T->Prop)->Prop):Prop:=∃r:R2,OpR X (binaryOp op) r/\∀t1 t2 v1 v2 H (Q0:T->Prop) (Q:VK),Rep X.K H t1 v1->Rep X.K H t2 v2->rT t1 t2 Q0 →
 (∀t v H',Same H H'->Rep X.K H' t v->Q0 t->Q v H')->r v1 v2 H Q
theorem up2{r:R2}{rT:T->T->(T->Prop)->Prop}{K:PySem.W.Frag}{H0:Hp} (br:∀t1 t2 v1 v2 H (Q0:T->Prop) (Q:VK),Rep K H t1 v1->Rep K H t2 v2->rT t1 t2 Q0 →
  (∀t v H',Same H H'->Rep K H' t v->Q0 t->Q v H')->r v1 v2 H Q) (σ:St) (H:Hp) (Q:VK) (h:up K H0 (w2 rT wa wb) σ H Q):tOp r (up K H0 wa) (up K H0 wb) σ H Q:=by
 obtain⟨τ,Q0,R,hw,k⟩:=h
 exact⟨τ,_,R,hw,fun t1 v1 H1 S1 r1 q1=>⟨τ,_,R.mono S1,q1,fun t2 v2 H2 S2 r2 q2=>br t1 t2 v1 v2 H2 Q0 Q (r1.kp (.of S2)) r2 q2 fun t v H' S3 r q=>k t v H' (S1.trans (S2.trans S3)) r q⟩⟩
theorem jop{op:Operator}{rT:T->T->(T->Prop)->Prop}(h:BR X op rT)(ha:JE X a wa)(hb:JE X b wb):JE X (.BinOp a op b pos) (w2 rT wa wb):=by
 obtain⟨r,ho,br⟩:=h
 exact pe_of (pe_op ho ha hb) (up2 br)
def rAddT(x y:T)(Q:T->Prop):Prop:=match x,y with | .int i,.int j=>Q (.int (i + j))|_,_=>False
def rSubT(x y:T)(Q:T->Prop):Prop:=match x,y with | .int i,.int j=>Q (.int (i - j))|_,_=>False
def Lim(n:Nat)(i:Int):Prop:=i.natAbs < 10 ^ n
def MulOk(i j:Int):Prop:=(∃m n,m<=100000/\n<=100000/\Lim m i/\Lim n j)∨Lim 19 i∨Lim 19 j
def DivOk(j:Int):Prop:=j≠0/\∃n,n<=2200/\Lim n j
def rMulT(x y:T)(Q:T->Prop):Prop:=match x,y with | .int i,.int j=>MulOk i j/\Q (.int (i * j))|_,_=>False
def rDivT(x y:T)(Q:T->Prop):Prop:=match x,y with | .int i,.int j=>DivOk j/\Q (.int (i.fdiv j))|_,_=>False
def rModT(x y:T)(Q:T->Prop):Prop:=match x,y with | .int i,.int j=>j≠0/\Q (.int (i.fmod j))|_,_=>False
def rPowT(x y:T)(Q:T->Prop):Prop:=match x,y with | .int i,.int j=>CPow i j/\Q (.int (i ^ j.toNat))|_,_=>False
theorem br_int{op:Operator}{C:Int->Int->Prop}{g:Int->Int->Int}(h:OpR X (binaryOp op) (rI C fun i j=>.int (g i j))) :
  BR X op (fun x y Q=>match x,y with | .int i,.int j=>C i j/\Q (.int (g i j))|_,_=>False):=by
 refine⟨_,h,fun t1 t2 v1 v2 H Q0 Q r1 r2 q k=>?_⟩
 cases t1<;>cases t2<;>first|exact q.elim|skip
 rename_i i j
 exact⟨i,j,rep_int.mp r1,rep_int.mp r2,q.1,k _ _ H (.refl H) (rep_int.mpr rfl) q.2⟩
theorem br_int0{op:Operator}{g:Int->Int->Int}(h:OpR X (binaryOp op) (rI0 fun i j=>.int (g i j))) :
  BR X op (fun x y Q=>match x,y with | .int i,.int j=>Q (.int (g i j))|_,_=>False):=by
 refine⟨_,h,fun t1 t2 v1 v2 H Q0 Q r1 r2 q k=>?_⟩
 cases t1<;>cases t2<;>first|exact q.elim|skip
 rename_i i j
 exact⟨i,j,rep_int.mp r1,rep_int.mp r2,k _ _ H (.refl H) (rep_int.mpr rfl) q⟩
theorem b_add:BR X .Add rAddT:=br_int0 op_add
theorem b_sub:BR X .Sub rSubT:=br_int0 op_sub
theorem log2_of_lim{n:Nat}{i:Int}(h:Lim n i):i.natAbs.log2 < 4 * n + 1:=by
 by_cases h0:i.natAbs=0
 ·rw[h0];simp
 ·rw[Nat.log2_lt h0]
  have h1:(10:Nat) ^ n<=16 ^ n:=Nat.pow_le_pow_left (by decide) n
  have h2:(16:Nat) ^ n=2 ^ (4 * n):=by rw[show (16:Nat)=2 ^ 4 from rfl,← Nat.pow_mul]
  have h3:(2:Nat) ^ (4 * n + 1)=2 ^ (4 * n) * 2:=Nat.pow_succ ..
  have h4:i.natAbs < 10 ^ n:=h
  have h5:0 < (2:Nat) ^ (4 * n):=Nat.pos_of_ne_zero (by simp)
  omega
theorem bits_of_lim{n:Nat}{i:Int}(h:Lim n i)(hn:n<=100000):Builtin.Int.intBits i<=2 ^ 20:=by
 have:=log2_of_lim h
 have e:(2:Nat) ^ 20=1048576:=by decide
 unfold Builtin.Int.intBits
 split<;>omega
theorem bits_of_19{i:Int}(h:Lim 19 i):Builtin.Int.intBits i<=64:=by
 unfold Lim at h
 have h2:i.natAbs < 2 ^ 64:=Nat.lt_of_lt_of_le h (by decide)
 unfold Builtin.Int.intBits
 split
 ·omega
 ·rename_i z
  have:=(Nat.log2_lt (n:=i.natAbs) (k:=64) (by simpa using z)).mpr h2
  omega
theorem MulOk.ok{i j:Int}(h:MulOk i j):IntMulOk i j:=by
 rcases h with ⟨m,n,hm,hn,a,b⟩|a|b
 ·exact .of_bits (bits_of_lim a hm) (bits_of_lim b hn)
 ·exact .of_left (bits_of_19 a)
 ·exact .of_right (bits_of_19 b)
theorem DivOk.ok{i j:Int}(h:DivOk j):Builtin.divisionGoesByPylong i j=false:=by
 obtain⟨_,n,hn,a⟩:=h
 have:=log2_of_lim a
 exact PyProof.noPylong_of_log2 (by omega)
theorem b_mul:BR X .Mult rMulT:=br_int (C:=MulOk) (opI fun _ _ _ _ _ _ _ hc q=>mul_int q hc.ok)
theorem b_div:BR X .FloorDiv rDivT:=br_int (C:=fun _ j=>DivOk j) (opI fun _ _ _ _ _ _ _ hc q=>floordiv_int hc.1 q (.inl hc.ok))
theorem b_mod:BR X .Mod rModT:=br_int (C:=fun _ j=>j≠0) op_modN
theorem b_pow:BR X .Pow rPowT:=br_int (C:=CPow) op_pow
def wNeg(wa:WE):WE:=fun τ Q=>wa τ fun x=>match x with | .int i=>Q (.int (-i))|_=>False
theorem jneg(ha:JE X a wa):JE X (.UnaryOp .USub a pos) (wNeg wa):=pe_of (pe_un un_neg ha) fun σ H Q ⟨τ,Q0,R,hw,k⟩=>⟨τ,_,R,hw,fun t v H1 S1 r1 q1=>by
 cases t<;>first|exact q1.elim|skip
 rename_i i
 exact⟨i,rep_int.mp r1,k _ _ H1 S1 (rep_int.mpr rfl) q1⟩⟩
def CRT(X:Cx)(op:CmpOp)(cT:T->T->(Bool->Prop)->Prop):Prop:=∃r:R2,OpR X (compareOp op) r/\∀t1 t2 v1 v2 H (Q0:Bool->Prop) (Q:VK),Rep X.K H t1 v1->Rep X.K H t2 v2->cT t1 t2 Q0 →
 (∀b,Q0 b->Q (.bl b) H)->r v1 v2 H Q
def wCmp(cT:T->T->(Bool->Prop)->Prop)(wa wb:WE):WE:=fun τ Q=>wa τ fun x=>wb τ fun y=>cT x y fun b=>Q (.bl b)
def tCmpT(cT:T->T->(Bool->Prop)->Prop)(wa wb:WE):WT:=fun τ Q=>wa τ fun x=>wb τ fun y=>cT x y Q
theorem jcmp{op:CmpOp}{cT:T->T->(Bool->Prop)->Prop}(h:CRT X op cT)(ha:JE X a wa)(hb:JE X b wb)(hm:behindInMarks op b=false):JE X (.Compare a [op] [b] pos) (wCmp cT wa wb):=by
 obtain⟨r,ho,br⟩:=h
 refine pe_of (pe_cmpR ho ha hb hm) fun σ H Q ⟨τ,Q0,R,hw,k⟩=>?_
 exact⟨τ,_,R,hw,fun t1 v1 H1 S1 r1 q1=>⟨τ,_,R.mono S1,q1,fun t2 v2 H2 S2 r2 q2=>br t1 t2 v1 v2 H2 _ Q (r1.kp (.of S2)) r2 q2 fun b q=>k _ _ H2 (S1.trans S2) (rep_bl.mpr rfl) q⟩⟩
theorem tcmp{op:CmpOp}{cT:T->T->(Bool->Prop)->Prop}(h:CRT X op cT)(ha:JE X a wa)(hb:JE X b wb)(hm:behindInMarks op b=false):JT X (.Compare a [op] [b] pos) (tCmpT cT wa wb):=by
 obtain⟨r,ho,br⟩:=h
 refine pt_of (pt_cmpR ho ha hb hm) fun σ H Q ⟨τ,Q0,R,hw,k⟩=>?_
 exact⟨τ,_,R,hw,fun t1 v1 H1 S1 r1 q1=>⟨τ,_,R.mono S1,q1,fun t2 v2 H2 S2 r2 q2=>br t1 t2 v1 v2 H2 _ _ (r1.kp (.of S2)) r2 q2 fun b q=>⟨b,rfl,k _ H2 (S1.trans S2) q⟩⟩⟩
def cLtT(x y:T)(Q:Bool->Prop):Prop:=match x,y with | .int i,.int j=>Q (decide (i < j))|_,_=>False
def cLeT(x y:T)(Q:Bool->Prop):Prop:=match x,y with | .int i,.int j=>Q (decide (i<=j))|_,_=>False
def cGtT(x y:T)(Q:Bool->Prop):Prop:=match x,y with | .int i,.int j=>Q (decide (j < i))|_,_=>False
def cGeT(x y:T)(Q:Bool->Prop):Prop:=match x,y with | .int i,.int j=>Q (decide (j<=i))|_,_=>False
theorem cr_int{op:CmpOp}{g:Int->Int->Bool}(h:OpR X (compareOp op) (rI0 fun i j=>.bl (g i j))) :
  CRT X op (fun x y Q=>match x,y with | .int i,.int j=>Q (g i j)|_,_=>False):=by
 refine⟨_,h,fun t1 t2 v1 v2 H Q0 Q r1 r2 q k=>?_⟩
 cases t1<;>cases t2<;>first|exact q.elim|skip
 rename_i i j
 exact⟨i,j,rep_int.mp r1,rep_int.mp r2,k _ q⟩
theorem c_lt:CRT X .Lt cLtT:=cr_int op_lt
theorem c_le:CRT X .LtE cLeT:=cr_int op_le
theorem c_gt:CRT X .Gt cGtT:=cr_int op_gt
theorem c_ge:CRT X .GtE cGeT:=cr_int op_ge
mutual
def eqT:T->T->Bool
 | .non,.non=>true
 | .bl a,.bl b=>a==b
 | .bl a,.int b=>decide ((if a then 1 else 0)=b)
 | .int a,.bl b=>decide (a=(if b then 1 else 0))
 | .int a,.int b=>decide (a=b)
 | .str a,.str b=>a==b
 | .tup xs,.tup ys=>eqTs xs ys
 | .lst xs,.lst ys=>eqTs xs ys
 | _,_=>false
def eqTs:List T->List T->Bool
 | [],[]=>true
 | x::xs,y::ys=>eqT x y&&eqTs xs ys
 | _,_=>false
end
theorem eqTb(a b:Bool):eqT (.bl a) (.bl b)=(a==b):=rfl
theorem eqTe(a b:Int):eqT (.int a) (.int b)=decide (a=b):=rfl
theorem eqTf(a b:Str):eqT (.str a) (.str b)=(a==b):=rfl
theorem eqTg(a b:List T):eqT (.tup a) (.tup b)=eqTs a b:=rfl
theorem eqTh(a b:List T):eqT (.lst a) (.lst b)=eqTs a b:=rfl
theorem eqTj(x y:T)(xs ys:List T):eqTs (x::xs) (y::ys)=(eqT x y&&eqTs xs ys):=rfl
mutual
def pd:T->PyData
 | .non=>.none
 | .bl b=>.bool b
 | .int i=>.int i
 | .str x=>.str x
 | .tup ts=>.tuple (pds ts)
 | .lst ts=>.list (pds ts)
 | .dct=>.dict []
 | .exc _=>.dict []
 | .exf _ _ _=>.dict []
 | .dic _ _=>.dict []
def pds:List T->List PyData
 | []=>[]
 | t::ts=>pd t::pds ts
end
mutual
theorem eqT_pd:∀x y:T,PyData.eqv (pd x) (pd y)=eqT x y
 | .tup xs,.tup ys=>by simp only[pd,PyData.eqv,eqTg,eqTh];exact eqTs_pd xs ys
 | .lst xs,.lst ys=>by simp only[pd,PyData.eqv,eqTg,eqTh];exact eqTs_pd xs ys
 | .non,y=>by cases y<;>simp only[pd,PyData.eqv]<;>rfl
 | .bl _,y=>by cases y<;>simp only[pd,PyData.eqv]<;>rfl
 | .int _,y=>by cases y<;>simp only[pd,PyData.eqv]<;>rfl
 | .str _,y=>by cases y<;>simp only[pd,PyData.eqv]<;>rfl
 | .tup _,.non=>by simp only[pd,PyData.eqv]<;>rfl
 | .tup _,.bl _=>by simp only[pd,PyData.eqv]<;>rfl
 | .tup _,.int _=>by simp only[pd,PyData.eqv]<;>rfl
 | .tup _,.str _=>by simp only[pd,PyData.eqv]<;>rfl
 | .tup _,.lst _=>by simp only[pd,PyData.eqv]<;>rfl
 | .tup _,.dct=>by simp only[pd,PyData.eqv]<;>rfl
 | .tup _,.exc _=>by simp only[pd,PyData.eqv]<;>rfl
 | .tup _,.exf _ _ _=>by simp only[pd,PyData.eqv]<;>rfl
 | .tup _,.dic _ _=>by simp only[pd,PyData.eqv]<;>rfl
 | .lst _,.dct=>by simp only[pd,PyData.eqv]<;>rfl
 | .lst _,.exc _=>by simp only[pd,PyData.eqv]<;>rfl
 | .lst _,.exf _ _ _=>by simp only[pd,PyData.eqv]<;>rfl
 | .lst _,.dic _ _=>by simp only[pd,PyData.eqv]<;>rfl
 | .dct,y=>by cases y<;>simp only[pd,PyData.eqv]<;>rfl
 | .exc _,y=>by cases y<;>simp only[pd,PyData.eqv]<;>rfl
 | .exf _ _ _,y=>by cases y<;>simp only[pd,PyData.eqv]<;>rfl
 | .dic _ _,y=>by cases y<;>simp only[pd,PyData.eqv]<;>rfl
 | .lst _,.non=>by simp only[pd,PyData.eqv]<;>rfl
 | .lst _,.bl _=>by simp only[pd,PyData.eqv]<;>rfl
 | .lst _,.int _=>by simp only[pd,PyData.eqv]<;>rfl
 | .lst _,.str _=>by simp only[pd,PyData.eqv]<;>rfl
 | .lst _,.tup _=>by simp only[pd,PyData.eqv]<;>rfl
theorem eqTs_pd:∀xs ys:List T,PyData.eqvAll (pds xs) (pds ys)=eqTs xs ys
 | [],[]=>by simp only[pds,PyData.eqvAll]<;>rfl
 | [],_::_=>by simp only[pds,PyData.eqvAll]<;>rfl
 | _::_,[]=>by simp only[pds,PyData.eqvAll]<;>rfl
 | x::xs,y::ys=>by simp only[pds,PyData.eqvAll,eqTj];rw[eqT_pd x y,eqTs_pd xs ys]
end
def plain(t:T):Bool:=(pd t).canLay0
def dep(t:T):Nat:=(pd t).depth
mutual
theorem reads_of{pins:List (Addr×Obj)}{s:Shared}{σ:St}{H:Hp}(I:Inv X pins σ H s):∀{t:T}{v:V}{u:Value},plain t=true->Rep X.K H t v->RelV v u->∃as,Reads s.heap u (pd t) as
 | .non,v,u,hp,r,q=>by rw[rep_non]at r;subst r;cases q;exact⟨_,.none⟩
 | .bl b,v,u,hp,r,q=>by rw[rep_bl]at r;subst r;cases q;exact⟨_,.bool b⟩
 | .int i,v,u,hp,r,q=>by rw[rep_int]at r;subst r;obtain⟨t,rfl⟩:=q;exact⟨_,.int i t⟩
 | .str x,v,u,hp,r,q=>by rw[rep_str]at r;subst r;obtain⟨t,rfl⟩:=q;exact⟨_,.str x t⟩
 | .tup ts,v,u,hp,r,q=>by
  rw[rep_tup]at r
  obtain⟨p,vs,rfl,sq,rr⟩:=r
  cases q
  obtain⟨its,rv,⟨o,ho,hc,n,hd⟩,_⟩:=I.tuple sq
  obtain⟨as,ra⟩:=readss_of I (show PyData.canLayAll0 (pds ts)=true from by simpa [plain,pd,PyData.canLay0] using hp) rr rv
  exact⟨_,.tuple ho hc hd (by simpa using ra)⟩
 | .lst ts,v,u,hp,r,q=>by
  rw[rep_lst]at r
  obtain⟨p,vs,rfl,sq,rr⟩:=r
  cases q
  obtain⟨its,rv,pl,_⟩:=I.list sq.sq
  obtain⟨o,ho,hc,n,hd⟩:=pl.isList
  obtain⟨as,ra⟩:=readss_of I (show PyData.canLayAll0 (pds ts)=true from by simpa [plain,pd,PyData.canLay0] using hp) rr rv
  exact⟨_,.list ho hc hd (by simpa using ra)⟩
 | .dct,v,u,hp,r,q=>by simp[plain,pd,PyData.canLay0]at hp
 | .exc _,v,u,hp,r,q=>by simp[plain,pd,PyData.canLay0]at hp
 | .exf _ _ _,v,u,hp,r,q=>by simp[plain,pd,PyData.canLay0]at hp
 | .dic _ _,v,u,hp,r,q=>by simp[plain,pd,PyData.canLay0]at hp
theorem readss_of{pins:List (Addr×Obj)}{s:Shared}{σ:St}{H:Hp}(I:Inv X pins σ H s):∀{ts:List T}{vs:List V}{us:List Value},PyData.canLayAll0 (pds ts)=true->Reps X.K H ts vs->Vals vs us->∃as,ReadsAll s.heap us (pds ts) as
 | [],vs,us,hp,r,q=>by rw[reps_nil]at r;subst r;cases q;exact⟨_,.nil⟩
 | t::ts,vs,us,hp,r,q=>by
  have hp':((pd t).canLay0&&PyData.canLayAll0 (pds ts))=true:=hp
  rw[Bool.and_eq_true]at hp'
  rw[reps_cons]at r
  obtain⟨v,vr,rfl,r1,r2⟩:=r
  cases q with
  | cons q1 q2 =>
   obtain⟨as,a1⟩:=reads_of I hp'.1 r1 q1
   obtain⟨bs,a2⟩:=readss_of I hp'.2 r2 q2
   exact⟨_,.cons a1 a2⟩
end
def EqOk(x y:T):Prop:=plain x=true/\plain y=true/\min (dep x) (dep y)<=60
def cEqT(x y:T)(Q:Bool->Prop):Prop:=match x,y with
 | .int i,.int j=>Q (decide (i=j))
 | x,y=>EqOk x y/\Q (eqT x y)
def cNeT(x y:T)(Q:Bool->Prop):Prop:=match x,y with
 | .int i,.int j=>Q (!decide (i=j))
 | x,y=>EqOk x y/\Q (!eqT x y)
theorem ok_ints(i j:Int):EqOk (.int i) (.int j):=by
 refine⟨by simp[plain,pd,PyData.canLay0],by simp[plain,pd,PyData.canLay0],by simp[dep,pd,PyData.depth]⟩
theorem cEqT_gen{x y:T}{Q:Bool->Prop}(h:cEqT x y Q):EqOk x y/\Q (eqT x y):=by
 unfold cEqT at h
 split at h
 ·exact⟨ok_ints _ _,by simpa only [eqTe] using h⟩
 ·exact h
theorem cNeT_gen{x y:T}{Q:Bool->Prop}(h:cNeT x y Q):EqOk x y/\Q (!eqT x y):=by
 unfold cNeT at h
 split at h
 ·exact⟨ok_ints _ _,by simpa only [eqTe] using h⟩
 ·exact h
theorem c_eq{k:Nat}(hr:Room k X.A):CRT X .Eq cEqT:=by
 refine⟨fun x y H Q=>∃t1 t2,Rep X.K H t1 x/\Rep X.K H t2 y/\EqOk t1 t2/\Q (.bl (eqT t1 t2)) H,?_,fun t1 t2 v1 v2 H Q0 Q r1 r2 q k=>?_⟩
 ·intro pins s σ H x y v u Q I rx ry h
  obtain⟨t1,t2,r1,r2,⟨p1,p2,hd⟩,q⟩:=h
  obtain⟨as,a1⟩:=reads_of I p1 r1 rx
  obtain⟨bs,a2⟩:=reads_of I p2 r2 ry
  have hu:=hr.units
  have hd':min (pd t1).depth (pd t2).depth<=60:=hd
  refine SeqAt.compareEq_reads a1 a2 p1 p2 (by omega) ⟨.bl _,H,I,rfl,?_⟩
  rw[eqT_pd]
  exact q
 ·obtain⟨ok,q⟩:=cEqT_gen q
  exact⟨t1,t2,r1,r2,ok,k _ q⟩
theorem c_ne{k:Nat}(hr:Room k X.A):CRT X .NotEq cNeT:=by
 refine⟨fun x y H Q=>∃t1 t2,Rep X.K H t1 x/\Rep X.K H t2 y/\EqOk t1 t2/\Q (.bl (!eqT t1 t2)) H,?_,fun t1 t2 v1 v2 H Q0 Q r1 r2 q k=>?_⟩
 ·intro pins s σ H x y v u Q I rx ry h
  obtain⟨t1,t2,r1,r2,⟨p1,p2,hd⟩,q⟩:=h
  obtain⟨as,a1⟩:=reads_of I p1 r1 rx
  obtain⟨bs,a2⟩:=reads_of I p2 r2 ry
  have hu:=hr.units
  have hd':min (pd t1).depth (pd t2).depth<=60:=hd
  refine SeqAt.compareNe_reads a1 a2 p1 p2 (by omega) ⟨.bl _,H,I,rfl,?_⟩
  rw[eqT_pd]
  exact q
 ·obtain⟨ok,q⟩:=cNeT_gen q
  exact⟨t1,t2,r1,r2,ok,k _ q⟩
def isNonT:T->Bool
 | .non=>true
 | _=>false
def cIsN(x y:T)(Q:Bool->Prop):Prop:=match y with
 | .non=>Q (isNonT x)
 | _=>False
def cNotN(x y:T)(Q:Bool->Prop):Prop:=match y with
 | .non=>Q (!isNonT x)
 | _=>False
theorem rep_is_non{K:PySem.W.Frag}{H:Hp}{t:T}{v:V}(r:Rep K H t v):decide (v=.non)=isNonT t:=by
 cases t with
 | non=>rw[rep_non]at r;subst r;rfl
 | bl b=>rw[rep_bl]at r;subst r;rfl
 | int b=>rw[rep_int]at r;subst r;rfl
 | str b=>rw[rep_str]at r;subst r;rfl
 | tup b=>rw[rep_tup]at r;obtain⟨p,vs,rfl,_⟩:=r;rfl
 | lst b=>rw[rep_lst]at r;obtain⟨p,vs,rfl,_⟩:=r;rfl
 | dct=>rw[rep_dct]at r;obtain⟨p,rfl,_⟩:=r;rfl
 | exc c=>rw[rep_exc]at r;obtain⟨p,rfl,_⟩:=r;rfl
 | exf c f t=>rw[rep_exf]at r;obtain⟨p,rfl,_⟩:=r;rfl
 | dic ks ts=>rw[rep_dic]at r;obtain⟨p,o,kvs,rfl,_⟩:=r;rfl
theorem c_is:CRT X .Is cIsN:=by
 refine⟨_,op_isN,fun t1 t2 v1 v2 H Q0 Q r1 r2 q k=>?_⟩
 cases t2<;>first|exact q.elim|skip
 refine⟨rep_non.mp r2,?_⟩
 rw[rep_is_non r1]
 exact k _ q
def wChain(c1 c2:T->T->(Bool->Prop)->Prop)(wa wb wc:WE):WE:=fun τ Q=>wa τ fun x=>wb τ fun y=>c1 x y fun k=>(k=true->wc τ fun z=>c2 y z fun b=>Q (.bl b))/\(k=false->Q (.bl false))
def tChainT(c1 c2:T->T->(Bool->Prop)->Prop)(wa wb wc:WE):WT:=fun τ Q=>wa τ fun x=>wb τ fun y=>c1 x y fun k=>(k=true->wc τ fun z=>c2 y z Q)/\(k=false->Q false)
theorem tchain{op op':CmpOp}{c1 c2:T->T->(Bool->Prop)->Prop}(h:CRT X op c1)(h':CRT X op' c2)(ha:JE X a wa)(hb:JE X b wb)(hc:JE X c wc)
  (hm:lastMarks [op,op'] [b,c]=false:=by with_unfolding_all rfl):JT X (.Compare a [op,op'] [b,c] pos) (tChainT c1 c2 wa wb wc):=by
 obtain⟨r,ho,br⟩:=h
 obtain⟨r',ho',br'⟩:=h'
 refine pt_of (pt_chain ho ho' ha hb hc hm) fun σ H Q ⟨τ,Q0,R,hw,k⟩=>?_
 refine⟨τ,_,R,hw,fun t1 v1 H1 S1 r1 q1=>⟨τ,_,R.mono S1,q1,fun t2 v2 H2 S2 r2 q2=>br t1 t2 v1 v2 H2 _ _ (r1.kp (.of S2)) r2 q2 fun b q=>⟨b,rfl,?_⟩⟩⟩
 cases b with
 | true =>
  rw[if_pos rfl]
  exact⟨τ,_,R.mono (S1.trans S2),q.1 rfl,fun t3 v3 H3 S3 r3 q3=>br' t2 t3 v2 v3 H3 _ _ (r2.kp (.of S3)) r3 q3 fun b q=>⟨b,rfl,k _ H3 (S1.trans (S2.trans S3)) q⟩⟩
 | false =>
  rw[if_neg Bool.false_ne_true]
  exact⟨false,rfl,k _ H2 (S1.trans S2) (q.2 rfl)⟩
def JW(X:Cx)(e:Expr)(w:WT):Prop:=PW X e (upT X.K X.H₀ w)
theorem jw{e:Expr}{w:WT}(h:JW X e w):JT X e w:=PW.pt h
variable {ua ub:WT} {rest:List Expr}
def tAndT(ua ub:WT):WT:=fun τ Q=>ua τ fun k=>(k=true->ub τ Q)/\(k=false->Q false)
def tOrT(ua ub:WT):WT:=fun τ Q=>ua τ fun k=>(k=true->Q true)/\(k=false->ub τ Q)
def tNotT(ua:WT):WT:=fun τ Q=>ua τ fun k=>Q (!k)
def tVal(wa:WE):WT:=fun τ Q=>wa τ fun x=>match x with | .bl k=>Q k|_=>False
theorem tand1(ha:JT X a ua):JW X (.BoolOp .And [a] pos) ua:=pw_and1 ha
theorem tor1(ha:JT X a ua):JW X (.BoolOp .Or [a] pos) ua:=pw_or1 ha
theorem tand(ha:JT X a ua)(hb:JW X (.BoolOp .And (b::rest) pos) ub):JW X (.BoolOp .And (a::b::rest) pos) (tAndT ua ub):=pw_of (pw_and ha hb) fun σ H Q ⟨τ,Q0,R,hw,k⟩=>by
 refine⟨τ,_,R,hw,fun c H1 S1 q=>?_⟩
 cases c with
 | true=>rw[if_pos rfl];exact⟨τ,_,R.mono S1,q.1 rfl,fun b H2 S2 q=>k b H2 (S1.trans S2) q⟩
 | false=>rw[if_neg Bool.false_ne_true];exact k _ H1 S1 (q.2 rfl)
theorem tor(ha:JT X a ua)(hb:JW X (.BoolOp .Or (b::rest) pos) ub):JW X (.BoolOp .Or (a::b::rest) pos) (tOrT ua ub):=pw_of (pw_or ha hb) fun σ H Q ⟨τ,Q0,R,hw,k⟩=>by
 refine⟨τ,_,R,hw,fun c H1 S1 q=>?_⟩
 cases c with
 | true=>rw[if_pos rfl];exact k _ H1 S1 (q.1 rfl)
 | false=>rw[if_neg Bool.false_ne_true];exact⟨τ,_,R.mono S1,q.2 rfl,fun b H2 S2 q=>k b H2 (S1.trans S2) q⟩
theorem tnot(ha:JT X a ua):JT X (.UnaryOp .Not a pos) (tNotT ua):=pt_of (pt_not ha) fun σ H Q ⟨τ,Q0,R,hw,k⟩=>⟨τ,_,R,hw,fun c H1 S1 q=>k _ H1 S1 q⟩
theorem tval(ha:JE X a wa)(he:∀whole,isTrue a X.env whole=(do let v ← whole;standAt a.pos;holding [v] (truthy v)):=by intro _;rfl):JT X a (tVal wa) :=
 pt_of (pt_val ha he) fun σ H Q ⟨τ,Q0,R,hw,k⟩=>⟨τ,_,R,hw,fun t v H1 S1 r q=>by
  cases t<;>first|exact q.elim|skip
  rename_i b
  exact⟨b,rep_bl.mp r,k _ H1 S1 q⟩⟩
def wAndV(wa wb:WE):WE:=fun τ Q=>wa τ fun x=>match x with | .bl k=>(k=true->wb τ Q)/\(k=false->Q (.bl false))|_=>False
def wOrV(wa wb:WE):WE:=fun τ Q=>wa τ fun x=>match x with | .bl k=>(k=true->Q (.bl true))/\(k=false->wb τ Q)|_=>False
def wNotV(wa:WE):WE:=fun τ Q=>wa τ fun x=>match x with | .bl k=>Q (.bl (!k))|_=>False
theorem jone{op}(h:JE X a wa):JE X (.BoolOp op [a] pos) wa:=pe_one h
theorem jand(ha:JE X a wa)(hb:JE X (.BoolOp .And (b::rest) pos) wb):JE X (.BoolOp .And (a::b::rest) pos) (wAndV wa wb):=pe_of (pe_and ha hb) fun σ H Q ⟨τ,Q0,R,hw,k⟩=>by
 refine⟨τ,_,R,hw,fun t v H1 S1 r q=>?_⟩
 cases t<;>first|exact q.elim|skip
 rename_i c
 refine⟨c,rep_bl.mp r,?_⟩
 cases c with
 | true=>rw[if_pos rfl];exact⟨τ,_,R.mono S1,q.1 rfl,fun t v H2 S2 r q=>k t v H2 (S1.trans S2) r q⟩
 | false=>rw[if_neg Bool.false_ne_true];exact k _ _ H1 S1 (rep_bl.mpr rfl) (q.2 rfl)
theorem jnot(ha:JE X a wa):JE X (.UnaryOp .Not a pos) (wNotV wa):=pe_of (pe_not ha) fun σ H Q ⟨τ,Q0,R,hw,k⟩=>⟨τ,_,R,hw,fun t v H1 S1 r q=>by
 cases t<;>first|exact q.elim|skip
 rename_i c
 exact⟨c,rep_bl.mp r,k _ _ H1 S1 (rep_bl.mpr rfl) q⟩⟩
def wIfE(ua:WT)(wa wb:WE):WE:=fun τ Q=>ua τ fun k=>(k=true->wa τ Q)/\(k=false->wb τ Q)
variable {ws:WA}
def aNil:WA:=fun _ Q=>Q []
def aCons(wa:WE)(ws:WA):WA:=fun τ Q=>wa τ fun x=>ws τ fun xs=>Q (x::xs)
theorem ja0:JA X [] aNil:=pa_of pa_nil fun σ H Q ⟨τ,Q0,R,hw,k⟩=>k _ _ H (.refl H) (reps_nil.mpr rfl) hw
theorem ja(ha:JE X e wa)(hr:JA X es ws)(hs:starEach (e::es) X.env=(false,eval e X.env)::starEach es X.env:=by exact star1 rfl):JA X (e::es) (aCons wa ws):=pa_of (pa_cons ha hr hs) fun σ H Q ⟨τ,Q0,R,hw,k⟩ =>
 ⟨τ,_,R,hw,fun t v H1 S1 r1 q1=>⟨τ,_,R.mono S1,q1,fun ts vs H2 S2 r2 q2=>k _ _ H2 (S1.trans S2) (.cons (r1.kp (.of S2)) r2) q2⟩⟩
def wTup(ws:WA):WE:=fun τ Q=>ws τ fun ts=>ts.length<=1000/\Q (.tup ts)
def wLst(ws:WA):WE:=fun τ Q=>ws τ fun ts=>ts.length<=1000/\Q (.lst ts)
theorem few{n:Nat}(h:n<=1000):n<=sizeLine:=Nat.le_of_lt (small1000 h)
theorem jtup{x1}(h:JA X es ws):JE X (.Tuple es x1 pos) (wTup ws):=pe_of (pe_tup h) fun σ H Q ⟨τ,Q0,R,hw,k⟩=>⟨τ,_,R,hw,fun ts vs H1 S1 r ⟨hl,q⟩ =>
 ⟨by rw[r.length];exact few hl,fun p hp=>k _ _ _ (S1.trans (same_new hp _)) (rep_tup.mpr ⟨p,vs,rfl,SqT.of upd_same,r.kp (.of (same_new hp _))⟩) q⟩⟩
def tLstF(t:TA):TE:=fun σ H Q=>t σ H fun xs H1=>xs.length<=sizeLine/\∀p o,H1 p=none->Q (.ref p) (upd H1 p (.frz o (.lst xs)))
theorem pe_lstF{t:TA}(h:PA X es t):PE X (.List es pos) (tLstF t):=by
 intro pins s σ H Q I hq
 refine wpAny_List_spliced (thn (h pos pins s σ H _ I hq) fun us s1 ⟨xs,H1,I1,r,z,q⟩=>⟨by rw[← r.length];exact z,?_⟩)
 have hf:H1 s1.heap.objs.size=none:=I1.hok.fresh (Nat.le_refl _)
 refine⟨.ref s1.heap.objs.size,upd H1 s1.heap.objs.size (.frz {cls:=.type "list", data:=.seq us.toArray} (.lst xs)),I1.laid (t':=s1.toks) (fun b u e=>Heap.get?_push_of_some _ e) (Nat.le_refl _) ?_,rfl,q _ _ hf⟩
 exact⟨Heap.get?_push_size _ rfl,z,us,0,r,Heap.get?_push_size _ rfl⟩
theorem jlst(h:JA X es ws):JE X (.List es pos) (wLst ws):=pe_of (pe_lstF h) fun σ H Q ⟨τ,Q0,R,hw,k⟩=>⟨τ,_,R,hw,fun ts vs H1 S1 r ⟨hl,q⟩ =>
 ⟨by rw[r.length];exact few hl,fun p o hp=>k _ _ _ (S1.trans (same_new hp _)) (rep_lst.mpr ⟨p,vs,rfl,.inl ⟨o,upd_same⟩,r.kp (.of (same_new hp _))⟩) q⟩⟩
def rIxTT(x y:T)(Q:T->Prop):Prop:=match x,y with
 | .tup ts,.int i=>(match atI ts i with|some t=>Q t|none=>False)
 | .lst ts,.int i=>(match atI ts i with|some t=>Q t|none=>False)
 | _,_=>False
theorem atI_reps{K:PySem.W.Frag}{H:Hp}{ts:List T}{vs:List V}{i:Int}{t:T}(r:Reps K H ts vs)(h:atI ts i=some t):∃v,atI vs i=some v/\Rep K H t v:=by
 unfold atI at h ⊢
 rw[r.length]
 cases e:ixN ts.length i with
 | none=>rw[e]at h;cases h
 | some j =>
  rw[e]at h
  exact r.get h
theorem jix(ha:JE X a wa)(hb:JE X b wb)(hs:PlainIx b:=by intro _ _;rfl):JE X (.Subscript a b pos) (w2 rIxTT wa wb):=pe_of (pe_ix ix_seq ha hb hs) (up2 fun t1 t2 v1 v2 H Q0 Q r1 r2 q k=>by
 cases t1<;>cases t2<;>first|exact q.elim|skip
 ·rename_i ts i
  rw[rep_tup]at r1
  obtain⟨p,vs,rfl,sq,rr⟩:=r1
  have q':(match atI ts i with|some t=>Q0 t|none=>False):=q
  cases e:atI ts i with
  | none=>rw[e]at q';exact q'.elim
  | some t =>
   rw[e]at q'
   obtain⟨v,ev,rv⟩:=atI_reps rr e
   exact .inr (.inl ⟨p,vs,i,v,rfl,rep_int.mp r2,sq,ev,k _ _ H (.refl H) rv q'⟩)
 ·rename_i ts i
  rw[rep_lst]at r1
  obtain⟨p,vs,rfl,sq,rr⟩:=r1
  have q':(match atI ts i with|some t=>Q0 t|none=>False):=q
  cases e:atI ts i with
  | none=>rw[e]at q';exact q'.elim
  | some t =>
   rw[e]at q'
   obtain⟨v,ev,rv⟩:=atI_reps rr e
   exact .inl ⟨p,vs,i,v,rfl,rep_int.mp r2,sq.sq,ev,k _ _ H (.refl H) rv q'⟩)
def BlR(X:Cx)(f:Value)(rT:List T->(T->Prop)->Prop):Prop:=∃r:List V->Hp->VK->Prop,CallR X f r/\∀ts vs H (Q0:T->Prop) (Q:VK),Reps X.K H ts vs->rT ts Q0 →
 (∀t v H',Same H H'->Rep X.K H' t v->Q0 t->Q v H')->r vs H Q
def wCB(rT:List T->(T->Prop)->Prop)(ws:WA):WE:=fun τ Q=>ws τ fun ts=>rT ts Q
theorem upCB{r:List V->Hp->VK->Prop}{rT:List T->(T->Prop)->Prop}{K:PySem.W.Frag}{H0:Hp} (br:∀ts vs H (Q0:T->Prop) (Q:VK),Reps K H ts vs->rT ts Q0 →
  (∀t v H',Same H H'->Rep K H' t v->Q0 t->Q v H')->r vs H Q) (σ:St) (H:Hp) (Q:VK) (h:up K H0 (wCB rT ws) σ H Q):tCB r (upA K H0 ws) σ H Q:=by
 obtain⟨τ,Q0,R,hw,k⟩:=h
 exact⟨τ,_,R,hw,fun ts vs H1 S1 r1 q1=>br ts vs H1 Q0 Q r1 q1 fun t v H' S2 r q=>k t v H' (S1.trans S2) r q⟩
theorem jblt{x:Str}{p:Pos}{id:String}{rT:List T->(T->Prop)->Prop}(h:BlR X (.builtin id) rT)(hg:Gl X x)(hm:X.mg x=none)(hv:bootBuiltins x=some (.builtin id))(ha:JA X (e::es) ws) (hn:x ≠ "__name__" := by decide)
  (hdb:(x==("__debug__" : Str))=false:=by decide) (he:starEach (e::es) X.env=(false,eval e X.env)::starEach es X.env:=by exact star1 rfl) (hpl:(backTo pos (starEach es X.env)).any (·.1)=false:=by exact stars rfl) :
  JE X (.Call (.Name x p) (e::es) [] pos) (wCB rT ws):=by
 obtain⟨r,hc,br⟩:=h
 exact pe_of (pe_callB hc hg hm hv ha hn hdb he hpl) (upCB br)
theorem jty{x:Str}{p:Pos}{id:String}{rT:List T->(T->Prop)->Prop}(h:BlR X (.type id) rT)(hg:Gl X x)(hm:X.mg x=none)(hv:bootBuiltins x=some (.type id))(ha:JA X (e::es) ws) (hn:x ≠ "__name__" := by decide)
  (hdb:(x==("__debug__" : Str))=false:=by decide) (he:starEach (e::es) X.env=(false,eval e X.env)::starEach es X.env:=by exact star1 rfl) (hpl:(backTo pos (starEach es X.env)).any (·.1)=false:=by exact stars rfl) :
  JE X (.Call (.Name x p) (e::es) [] pos) (wCB rT ws):=by
 obtain⟨r,hc,br⟩:=h
 exact pe_of (pe_callTy hc hg hm hv ha hn hdb he hpl) (upCB br)
theorem reps1{K:PySem.W.Frag}{H:Hp}{t:T}{vs:List V}(r:Reps K H [t] vs):∃v,vs=[v]/\Rep K H t v:=by
 rw[reps_cons]at r
 obtain⟨v,vr,rfl,r1,r2⟩:=r
 rw[reps_nil]at r2
 subst r2
 exact⟨v,rfl,r1⟩
theorem reps2{K:PySem.W.Frag}{H:Hp}{t t':T}{vs:List V}(r:Reps K H [t,t'] vs):∃v v',vs=[v,v']/\Rep K H t v/\Rep K H t' v':=by
 rw[reps_cons]at r
 obtain⟨v,vr,rfl,r1,r2⟩:=r
 obtain⟨v',rfl,r3⟩:=reps1 r2
 exact⟨v,v',rfl,r1,r3⟩
def rLenT(ts:List T)(Q:T->Prop):Prop:=match ts with
 | [.tup xs]=>Q (.int xs.length)
 | [.lst xs]=>Q (.int xs.length)
 | _=>False
theorem bl_len:BlR X (.builtin "len") rLenT:=by
 refine⟨_,call_len_seq,fun ts vs H Q0 Q r q k=>?_⟩
 unfold rLenT at q
 split at q
 ·obtain⟨v,rfl,r1⟩:=reps1 r
  rw[rep_tup]at r1
  obtain⟨p,ys,rfl,sq,rr⟩:=r1
  exact⟨p,ys,rfl,.inr sq,k _ _ H (.refl H) (rep_int.mpr (by rw[rr.length])) q⟩
 ·obtain⟨v,rfl,r1⟩:=reps1 r
  rw[rep_lst]at r1
  obtain⟨p,ys,rfl,sq,rr⟩:=r1
  exact⟨p,ys,rfl,.inl sq.sq,k _ _ H (.refl H) (rep_int.mpr (by rw[rr.length])) q⟩
 ·exact q.elim
end
end TL
end
section
namespace TL
open PySem PySem.Spec PyProof.Rows L2
section
variable {X:Cx} {a b c e:Expr} {es:List Expr} {wa wb wc w:WE} {ws:WA} {pos:Pos}
def rAbsT(ts:List T)(Q:T->Prop):Prop:=match ts with
 | [.int i]=>Q (.int (if i < 0 then -i else i))
 | _=>False
theorem bl_abs:BlR X (.builtin "abs") rAbsT:=by
 refine⟨_,call_abs,fun ts vs H Q0 Q r q k=>?_⟩
 unfold rAbsT at q
 split at q
 ·obtain⟨v,rfl,r1⟩:=reps1 r
  rename_i i
  exact⟨i,by rw[rep_int.mp r1],k _ _ H (.refl H) (rep_int.mpr rfl) q⟩
 ·exact q.elim
def rMaxT(ts:List T)(Q:T->Prop):Prop:=match ts with
 | [.int i,.int j]=>Q (.int (if j > i then j else i))
 | _=>False
def rMinT(ts:List T)(Q:T->Prop):Prop:=match ts with
 | [.int i,.int j]=>Q (.int (if j < i then j else i))
 | _=>False
theorem bl_max(hc:X.calm=true):BlR X (.builtin "max") rMaxT:=by
 refine⟨_,call_max2 hc,fun ts vs H Q0 Q r q k=>?_⟩
 unfold rMaxT at q
 split at q
 ·obtain⟨v,v',rfl,r1,r2⟩:=reps2 r
  rename_i i j
  exact⟨i,j,by rw[rep_int.mp r1,rep_int.mp r2],k _ _ H (.refl H) (rep_int.mpr rfl) q⟩
 ·exact q.elim
theorem bl_min(hc:X.calm=true):BlR X (.builtin "min") rMinT:=by
 refine⟨_,call_min2 hc,fun ts vs H Q0 Q r q k=>?_⟩
 unfold rMinT at q
 split at q
 ·obtain⟨v,v',rfl,r1,r2⟩:=reps2 r
  rename_i i j
  exact⟨i,j,by rw[rep_int.mp r1,rep_int.mp r2],k _ _ H (.refl H) (rep_int.mpr rfl) q⟩
 ·exact q.elim
def rTupleT(ts:List T)(Q:T->Prop):Prop:=match ts with
 | [.tup xs]=>Q (.tup xs)
 | [.lst xs]=>Q (.tup xs)
 | _=>False
theorem ty_tuple:BlR X (.type "tuple") rTupleT:=by
 refine⟨_,call_tuple_of,fun ts vs H Q0 Q r q k=>?_⟩
 unfold rTupleT at q
 split at q
 ·obtain⟨v,rfl,r1⟩:=reps1 r
  have r':=r1
  rw[rep_tup]at r1
  obtain⟨p,ys,rfl,sq,rr⟩:=r1
  exact⟨p,ys,rfl,.inr ⟨sq,k _ _ H (.refl H) r' q⟩⟩
 ·obtain⟨v,rfl,r1⟩:=reps1 r
  rw[rep_lst]at r1
  obtain⟨p,ys,rfl,sq,rr⟩:=r1
  exact⟨p,ys,rfl,.inl ⟨sq.sq,fun l hl=>k _ _ _ (same_new hl _) (rep_tup.mpr ⟨l,ys,rfl,SqT.of upd_same,rr.kp (.of (same_new hl _))⟩) q⟩⟩
 ·exact q.elim
inductive Kd where
 | int|bool|tuple|list|str
def Kd.nm:Kd->String
 | .int => "int"
 | .bool => "bool"
 | .tuple => "tuple"
 | .list => "list"
 | .str => "str"
def isK:Kd->T->Bool
 | .int,.int _=>true
 | .int,.bl _=>true
 | .bool,.bl _=>true
 | .tuple,.tup _=>true
 | .list,.lst _=>true
 | .str,.str _=>true
 | _,_=>false
def noExc:T->Prop
 | .exc _=>False
 | .exf _ _ _=>False
 | .dic _ _=>False
 | _=>True
theorem call_isi(kd:Kd):CallR X (.builtin "isinstance") (fun xs H Q=>∃x t,xs=[x,.ty kd.nm]/\Rep X.K H t x/\noExc t/\Q (.bl (isK kd t)) H):=by
 intro pins s σ H xs us Q I r h
 obtain⟨x,t,rfl,rt,ne,q⟩:=h
 obtain⟨u,u',rfl,rx,r2⟩:=vals2 r
 obtain rfl:u'=Value.type kd.nm:=r2
 have fin:∀tk,EP X pins σ Q (.bool (isK kd t)) {s with toks:=tk}:=fun tk=>⟨.bl _,H,I.tok tk,rfl,q⟩
 cases t with
 | non=>rw[rep_non]at rt;subst rt;cases rx;exact PySem.W.kia_one PySem.W.kitx_none I.kIn True.intro (by cases kd<;>kernel_rfl) (fun z=>nomatch z) fin
 | bl y=>rw[rep_bl]at rt;subst rt;cases rx;exact PySem.W.kia_one PySem.W.kitx_bool I.kIn True.intro (by cases kd<;>kernel_rfl) (fun z=>nomatch z) fin
 | int i=>rw[rep_int]at rt;subst rt;obtain⟨t,rfl⟩:=rx;exact PySem.W.kia_one PySem.W.kitx_int I.kIn True.intro (by cases kd<;>kernel_rfl) (fun z=>nomatch z) fin
 | str y=>rw[rep_str]at rt;subst rt;obtain⟨t,rfl⟩:=rx;exact PySem.W.kia_one PySem.W.kitx_str I.kIn True.intro (by cases kd<;>kernel_rfl) (fun z=>nomatch z) fin
 | tup ts =>
  rw[rep_tup]at rt
  obtain⟨p,vs,rfl,sq,_⟩:=rt
  cases rx
  obtain⟨its,_,⟨o,h1,h2,_⟩,_⟩:=I.tuple sq
  exact PySem.W.kia_one PySem.W.kitx_tuple I.kIn ⟨o,h1,h2⟩ (by cases kd<;>kernel_rfl) (fun z=>nomatch z) fin
 | lst ts =>
  rw[rep_lst]at rt
  obtain⟨p,vs,rfl,sq,_⟩:=rt
  cases rx
  obtain⟨its,_,pl,_⟩:=I.list sq.sq
  obtain⟨o,h1,h2,_⟩:=pl.isList
  exact PySem.W.kia_one PySem.W.kitx_list I.kIn ⟨o,h1,h2⟩ (by cases kd<;>kernel_rfl) (fun z=>nomatch z) fin
 | dct =>
  rw[rep_dct]at rt
  obtain⟨p,rfl,hp⟩:=rt
  cases rx
  exact PySem.W.kia_one PySem.W.kitx_dict I.kIn ⟨_,(I.hok p _ hp).1,rfl⟩ (by cases kd<;>kernel_rfl) (fun z=>nomatch z) fin
 | exc c=>exact ne.elim
 | exf c f t=>exact ne.elim
 | dic ks ts=>exact ne.elim
def wIsi(kd:Kd)(wa:WE):WE:=fun τ Q=>wa τ fun t=>noExc t/\Q (.bl (isK kd t))
theorem jisi(kd:Kd){p pc:Pos}{x:Str}(ha:JE X e wa) (hg:Gl X "isinstance") (hm:X.mg "isinstance" = none) (hgc:Gl X x) (hmc:X.mg x=none) (hvc:bootBuiltins x=some (.type kd.nm))
  (hn:x ≠ "__name__" := by decide) (hd:(x==("__debug__" : Str))=false:=by decide)
  (hs:starEach [e,.Name x pc] X.env=(false,eval e X.env)::starEach [.Name x pc] X.env:=by exact star1 rfl) (hs1:starEach [.Name x pc] X.env=(false,eval (.Name x pc) X.env)::starEach [] X.env:=by rfl)
  (hpl:(backTo pos (starEach [.Name x pc] X.env)).any (·.1)=false:=by exact stars rfl):JE X (.Call (.Name "isinstance" p) [e,.Name x pc] [] pos) (wIsi kd wa):=by
 refine pe_of (pe_callB (call_isi kd) hg hm boot_isinstance (pa_cons ha (pa_cons (pe_bltn (v:=.ty kd.nm) hgc hmc hvc rfl hn hd) pa_nil hs1) hs) (by decide) (by decide) hs hpl) fun σ H Q ⟨τ,Q0,R,hw,k⟩=>?_
 exact⟨τ,_,R,hw,fun t v H1 S1 r1 q1=>⟨v,t,rfl,r1,q1.1,k _ _ H1 S1 (rep_bl.mpr rfl) q1.2⟩⟩
abbrev SpT:=List T->(T->Prop)->Prop
def spT(K:PySem.W.Frag)(n:Nat)(S:SpT):Sp:=fun vs H Q _=>∃(ts:List T) (Q0:T->Prop),vs.length=n/\Reps K H ts vs/\S ts Q0/\∀t v H',Same H H'->Rep K H' t v->Q0 t->Q v H'
structure FnT(P:Program)(w:World)(K:PySem.W.Frag)(mg:Str->Option Value)(base:Heap)(k:Nat)(f:Addr)(fd:FuncData)(ps:List Str)(S:SpT):Prop where
 ok:FnOk P w K mg base CX0 k f fd ps (spT K ps.length S)
 len:∀ts Q,S ts Q->ts.length=ps.length
def wCall(S:SpT)(ws:WA):WE:=fun τ Q=>ws τ fun ts=>S ts Q
theorem jcall{k:Nat}{f:Addr}{fd:FuncData}{ps:List Str}{S:SpT}{x:Str}{p:Pos}(F:FnT X.prog X.w X.K X.mg X.base k f fd ps S)(hr:Room k X.A)(hg:Gl X x)(hm:X.mg x=some (.ref f))(hk:PySem.W.keepIn X.K (.ref f)=true)
  (hb:Binds X.K fd ps []) (ha:JA X (e::es) ws) (hdb:(x==("__debug__" : Str))=false:=by decide) (he:starEach (e::es) X.env=(false,eval e X.env)::starEach es X.env:=by exact star1 rfl)
  (hpl:(backTo pos (starEach es X.env)).any (·.1)=false:=by exact stars rfl):JE X (.Call (.Name x p) (e::es) [] pos) (wCall S ws):=by
 refine pe_of (pe_call F.ok hr hg hm hk hb .nil pass0 ha hdb he hpl) fun σ H Q ⟨τ,Q0,R,hw,k⟩=>?_
 refine⟨τ,_,R,hw,fun ts vs H1 S1 r1 q1=>?_⟩
 have e0:vs++[]=vs:=List.append_nil vs
 show spT X.K ps.length S (vs++[]) H1 Q E0
 rw[e0]
 exact⟨ts,Q0,by rw[r1.length];exact F.len _ _ q1,r1,q1,fun t v H' S2 r q=>k t v H' (S1.trans S2) r q⟩
def startT(n:Nat)(ts:List T):List Slot:=ts.map Slot.val++List.replicate (n - ts.length) Slot.no
theorem sget_append_left:∀{l r:List Slot}{i:Nat},i < l.length->sget (l++r) i=sget l i
 | [],_,_,h=>by simp at h
 | _::_,_,0,_=>rfl
 | _::l,r,i + 1,h=>by simp only[List.cons_append,sget];exact sget_append_left (by simpa using h)
theorem sget_append_right:∀{l r:List Slot}{i:Nat},l.length<=i->sget (l++r) i=sget r (i - l.length)
 | [],_,_,_=>by simp
 | _::_,_,0,h=>by simp at h
 | _::l,r,i + 1,h=>by
  simp only[List.cons_append,sget,List.length_cons]
  rw[sget_append_right (by simpa using h)]
  congr 1
  omega
theorem sget_no:∀(n i:Nat),sget (List.replicate n Slot.no) i=.no
 | 0,_=>rfl
 | _ + 1,0=>rfl
 | n + 1,i + 1=>by simp only[List.replicate,sget];exact sget_no n i
theorem sget_vals:∀{ts:List T}{i:Nat},i < ts.length->∃t,ts[i]?=some t/\sget (ts.map Slot.val) i=.val t
 | [],_,h=>by simp at h
 | t::_,0,_=>⟨t,rfl,rfl⟩
 | _::r,i + 1,h=>by
  obtain⟨t,h1,h2⟩:=sget_vals (ts:=r) (i:=i) (by simpa using h)
  exact⟨t,by simpa using h1,by simpa [sget] using h2⟩
theorem repSt_start{K:PySem.W.Frag}{H:Hp}{N:List Str}{ts:List T}{vs:List V}(r:Reps K H ts vs):RepSt K H H (L2.start N vs) (startT N.length ts):=by
 have hl:=r.length
 have noOwn:∀i us,sget (startT N.length ts) i ≠ .own us:=fun i us e=>by
  unfold startT at e
  by_cases hi:i < ts.length
  ·rw[sget_append_left (by simpa using hi)]at e
   obtain⟨t,_,h2⟩:=sget_vals hi
   rw[h2]at e
   cases e
  ·rw[sget_append_right (by simpa using hi),sget_no]at e
   cases e
 refine⟨.refl H,by unfold L2.start startT;simp[hl],fun i=>?_,fun i j ts' us p _ h1 _ _ _=>absurd h1 (noOwn i _)⟩
 unfold startT
 by_cases hi:i < ts.length
 ·rw[sget_append_left (by simpa using hi)]
  obtain⟨t,h1,h2⟩:=sget_vals hi
  rw[h2]
  obtain⟨v,e,rv⟩:=r.get h1
  refine⟨v,?_,rv⟩
  unfold L2.start
  rw[List.getElem?_append_left (by simp[hl,hi]),List.getElem?_map,e]
  rfl
 ·rw[sget_append_right (by simpa using hi),sget_no]
  trivial
theorem fnT{P:Program}{w:World}{K:PySem.W.Frag}{mg:Str->Option Value}{base:Heap}{x qual:Str}{st:Stmt}{f:Addr}{fd:FuncData}{N ps:List Str}{k:Nat}{S:SpT}{W:WS}(F:Fun K x qual st f fd)(SC:FnScope N ps (defScope st))
  (hlen:∀ts Q,S ts Q->ts.length=ps.length)
  (hbody:∀(cdv:Value)(A:Around)(outer:List Env)(s:Shared)(H:Hp)(E:XK),Room k (A.deeper (envOfC qual (defScope st) s.heap.objs.size f cdv))->JSs (cxOf CX0 P w K mg base N qual (defScope st) f cdv A outer s H E).nox (defBody st) W)
  (hw:∀ts Q,S ts Q->W {nx:=fun _=>Q .non,rt:=Q} (startT N.length ts)):FnT P w K mg base (k + 1) f fd ps S:=by
 refine⟨F.ok SC (fun vs H Q E h=>?_) (fun cdv A outer s H vs Q E hr h=>?_),hlen⟩
 ·obtain⟨_,_,e,_⟩:=h
  exact e
 obtain⟨ts,Q0,e,r,hS,q⟩:=h
 refine⟨_,hbody cdv A outer s H E hr,startT N.length ts,{nx:=fun _=>Q0 .non,rt:=Q0},repSt_start r,hw ts Q0 hS,fun τ' σ' H' _ R n=>?_,fun t v H' S r' n=>q t v H' S r' n,fun τ' σ' H' _ R n=>n.elim,fun τ' σ' H' _ R n=>n.elim⟩
 exact q .non .non H' R.same (rep_non.mpr rfl) n
variable {st:Stmt} {rest:List Stmt} {t u:WS} {ua:WT}
def sNext:WS:=fun D τ=>D.nx τ
def sSeq(t u:WS):WS:=fun D τ=>t {D with nx:=u D} τ
theorem js0:JSs X [] sNext:=pss_of pss_nil fun D σ H ⟨τ,D0,R,hw,k,_⟩=>k τ σ H (.refl H) R hw
theorem js1(h:JS X st t):JSs X [st] t:=pss_of (pss_one h) fun D σ H z=>z
theorem jsc(h1:JS X st t)(h2:JSs X rest u):JSs X (st::rest) (sSeq t u):=pss_of (pss_cons h1 h2) fun D σ H ⟨τ,D0,R,hw,kn,kr,kb,kc⟩ =>
 ⟨τ,_,R,hw,fun τ' σ' H' K1 R' q=>⟨τ',D0,R',q,fun τ2 σ2 H2 K2 R2 q2=>kn τ2 σ2 H2 (K1.trans K2) R2 q2,kr,fun τ2 σ2 H2 K2 R2 q2=>kb τ2 σ2 H2 (K1.trans K2) R2 q2,fun τ2 σ2 H2 K2 R2 q2=>kc τ2 σ2 H2 (K1.trans K2) R2 q2⟩,
  kr,kb,kc⟩
def sRet(w:WE):WS:=fun D τ=>w τ D.rt
theorem jret(h:JE X e w):JS X (.Return (some e) pos) (sRet w):=ps_of (ps_ret h) fun D σ H ⟨τ,D0,R,hw,_,k,_⟩=>⟨τ,_,R,hw,fun t v H' S r q=>k t v H' (R.same.trans S) r q⟩
def sRetN:WS:=fun D _=>D.rt .non
def sIf(ua:WT)(t u:WS):WS:=fun D τ=>ua τ fun k=>(k=true->t D τ)/\(k=false->u D τ)
theorem jsif{c:Expr}{a b:List Stmt}(hc:JT X c ua)(ha:JSs X a t)(hb:JSs X b u):JS X (.If c a b pos) (sIf ua t u):=ps_of (ps_if hc ha hb) fun D σ H ⟨τ,D0,R,hw,kn,kr,kb,kc⟩=>by
 refine⟨τ,_,R,hw,fun d H1 S1 q=>?_⟩
 have K1:=Kp.of S1
 cases d with
 | true=>dsimp only;rw[if_pos rfl];exact⟨τ,D0,R.mono S1,q.1 rfl,fun τ2 σ2 H2 K2 R2 q2=>kn τ2 σ2 H2 (K1.trans K2) R2 q2,kr,fun τ2 σ2 H2 K2 R2 q2=>kb τ2 σ2 H2 (K1.trans K2) R2 q2,fun τ2 σ2 H2 K2 R2 q2=>kc τ2 σ2 H2 (K1.trans K2) R2 q2⟩
 | false=>dsimp only;rw[if_neg Bool.false_ne_true];exact⟨τ,D0,R.mono S1,q.2 rfl,fun τ2 σ2 H2 K2 R2 q2=>kn τ2 σ2 H2 (K1.trans K2) R2 q2,kr,fun τ2 σ2 H2 K2 R2 q2=>kb τ2 σ2 H2 (K1.trans K2) R2 q2,fun τ2 σ2 H2 K2 R2 q2=>kc τ2 σ2 H2 (K1.trans K2) R2 q2⟩
def sExpr(w:WE):WS:=fun D τ=>w τ fun _=>D.nx τ
def sSet(i:Nat)(w:WE):WS:=fun D τ=>w τ fun t=>D.nx (sput τ i (.val t))
theorem jset{i:Nat}{x:Str}{pos':Pos}(hN:X.N.Nodup)(hi:X.N[i]?=some x)(hx:Loc X.env.scope x)(he:JE X e w)(hs:swapsWith e (some (.Name x pos')) pos.line X.env=pure false:=by rfl)
  (hf:X.fn x=true∨X.env.scope.names.lookup x=some .local:=by first|exact .inl rfl|exact .inr rfl|assumption):JS X (.Assign [.Name x pos'] e pos) (sSet i w) :=
 ps_of (ps_set hN hi hx he hs hf) fun D σ H ⟨τ,D0,R,hw,k,_⟩=>⟨τ,_,R,hw,fun t v H' S r q=>k _ _ H' (.of S) ((R.mono S).put r) q⟩
def sOwn(i:Nat)(ws:WA):WS:=fun D τ=>ws τ fun ts=>ts.length<=1000/\D.nx (sput τ i (.own ts))
theorem jown{i:Nat}{x:Str}{pos' pl:Pos}(hN:X.N.Nodup)(hi:X.N[i]?=some x)(hx:Loc X.env.scope x)(he:JA X es ws)(hs:swapsWith (.List es pl) (some (.Name x pos')) pos.line X.env=pure false:=by rfl)
  (hf:X.fn x=true∨X.env.scope.names.lookup x=some .local:=by first|exact .inl rfl|exact .inr rfl|assumption):JS X (.Assign [.Name x pos'] (.List es pl) pos) (sOwn i ws) :=
 ps_of (ps_set hN hi hx (pe_lst he) hs hf) fun D σ H ⟨τ,D0,R,hw,k,_⟩=>⟨τ,_,R,hw,fun ts vs H' S r ⟨hl,q⟩ =>
  ⟨by rw[r.length];exact few hl,fun p hp=>k _ _ _ ((Kp.of S).trans (.of (same_new hp _))) ((R.mono S).putOwn hp r) q⟩⟩
def sApp(i:Nat)(w:WE):WS:=fun D τ=>match sget τ i with
 | .own ts=>w τ fun t=>ts.length < 1000/\D.nx (sput τ i (.own (ts++[t])))
 | _=>False
theorem japp{i:Nat}{x:Str}{px apos cpos:Pos}(hv:PE X (.Name x px) (tVar i))(he:JE X e w)
  (hs:swapsWith (.Call (.Attribute (.Name x px) "append" apos) [e] [] cpos) none pos.line X.env=pure false:=by rfl)
  (hbase:attributeBase (.Name x px) "append" X.env (eval (.Name x px) X.env)=eval (.Name x px) X.env:=by rfl)
  (hfew:((backTo cpos (starEach [e] X.env)).all (fun x=>!x.1)&&(backToKw cpos (keywordEach [] X.env)).all (fun x=>x.1.isSome)
   && decide ([e].length + ([]:List Keyword).length + (if ([]:List Keyword).isEmpty then 0 else 1) < 30))=true:=by rfl)
  (hline:(apos.endLine==cpos.line)=true:=by rfl) (hst:starEach [e] X.env=(false,eval e X.env)::starEach [] X.env:=by rfl) (hplain:(backTo cpos (starEach [] X.env)).any (·.1)=false:=by rfl) :
  JS X (.Expr (.Call (.Attribute (.Name x px) "append" apos) [e] [] cpos) pos) (sApp i w):=by
 refine ps_of (ps_expr (pe_bm PySem.F.plainAttrs_list PySem.F.slot_list_append PySem.F.type_list_append mt_append hv (pa_cons he pa_nil hst) hbase hfew hline hst hplain) hs) fun D σ H ⟨τ,D0,R,hw,k,_⟩=>?_
 unfold sApp at hw
 cases own:sget τ i with
 | no=>rw[own]at hw;exact hw.elim
 | val t=>rw[own]at hw;exact hw.elim
 | see t=>rw[own]at hw;exact hw.elim
 | dic t=>rw[own]at hw;exact hw.elim
 | vat t v=>rw[own]at hw;exact hw.elim
 | owd p q=>rw[own]at hw;exact hw.elim
 | own ts =>
  rw[own]at hw
  have sl:=R.slot i
  rw[own]at sl
  obtain⟨p,vs,ev,hp,rr,n0⟩:=sl
  refine⟨.ref p,ev,.inl ⟨rfl,vs,SqL.of hp⟩,τ,_,R,hw,fun t v H' S r q=>?_⟩
  refine⟨p,vs,v,rfl,rfl,S _ _ hp,by rw[rr.length];exact small1000 (Nat.le_of_lt q.1),?_⟩
  exact k _ _ _ ((Kp.of S).trans (Kp.write (S _ _ hp) _)) ((R.mono S).write own ev (S _ _ hp) ((rr.kp (.of S)).append (.one r))) q.2
def sFrz(i:Nat)(t:WS):WS:=fun D τ=>match sget τ i with
 | .own ts=>t D (sput τ i (.val (.lst ts)))
 | _=>False
theorem Inv.freeze{pins:List (Addr×Obj)}{σ:St}{H:Hp}{s:Shared}{p:Addr}{xs:List V}(I:Inv X pins σ H s)(h:H p=some (.lst xs)):∃o,Inv X pins σ (upd H p (.frz o (.lst xs))) s:=by
 obtain⟨z,its,n,r,e⟩:=I.hok p _ h
 refine⟨{cls:=.type "list", data:=.seq its.toArray n},?_⟩
 have ne:∀{b:Addr}{o:HO},H b=some o->o ≠ .lst xs->b≠p:=fun q d z=>by subst z;rw[h]at q;cases q;exact d rfl
 have nn:∀{b:Addr},H b=none->b≠p:=fun q z=>by subst z;rw[h]at q;cases q
 have u:Un X.fs [] H (upd H p (.frz {cls:=.type "list", data:=.seq its.toArray n} (.lst xs))) s.heap s.heap:=by
  refine⟨fun b o q _ _ _=>q,fun b o q _ _ _=>⟨o.slots,q⟩,fun b o _ q _=>by rw[upd_ne (nn q)];exact q,fun b o q _=>⟨o,q⟩,fun b ys q=>?_,fun b o' u' q=>?_,fun b ps q=>⟨#[],?_⟩⟩
  ·rw[upd_ne (by rintro rfl;rw[h]at q;cases q)];exact q
  ·rw[upd_ne (by rintro rfl;rw[h]at q;cases q)];exact q
  ·rw[upd_ne (by rintro rfl;rw[h]at q;cases q),q];simp
 have hok:HOk X.prog X.w (upd H p (.frz {cls:=.type "list", data:=.seq its.toArray n} (.lst xs))) s.heap:=fun b ob q=>by
  by_cases hb:b=p
  ·subst hb
   rw[upd_same]at q
   cases q
   exact⟨e,z,its,n,r,e⟩
  ·rw[upd_ne hb]at q
   refine(I.hok b ob q).stay (fun c v _ q=>q) (fun c q=>?_) fun c ys q=>?_
   ·rw[upd_ne (by rintro rfl;rw[h]at q;cases q)];exact q
   ·rw[upd_ne (by rintro rfl;rw[h]at q;cases q)];exact q
 have:=I.un (h':=s.heap) (t':=s.toks) u hok
 exact this
theorem jfrz(i:Nat){sts:List Stmt}(h:JSs X sts t):JSs X sts (sFrz i t):=by
 intro pins s σ H D I hw
 obtain⟨τ,D0,R,hw,kn,kr,kb,kc⟩:=hw
 unfold sFrz at hw
 cases own:sget τ i with
 | no=>rw[own]at hw;exact hw.elim
 | val t=>rw[own]at hw;exact hw.elim
 | see t=>rw[own]at hw;exact hw.elim
 | dic t=>rw[own]at hw;exact hw.elim
 | vat t v=>rw[own]at hw;exact hw.elim
 | owd p q=>rw[own]at hw;exact hw.elim
 | own ts =>
  rw[own]at hw
  have sl:=R.slot i
  rw[own]at sl
  obtain⟨p,vs,ev,hp,rr,n0⟩:=sl
  obtain⟨o,I'⟩:=Inv.freeze I hp
  have K1:=Kp.write hp (.frz o (.lst vs))
  exact h pins s σ _ D I' ⟨_,D0,R.freeze own ev hp rr,hw,fun τ2 σ2 H2 K2 R2 q2=>kn τ2 σ2 H2 (K1.trans K2) R2 q2,kr,fun τ2 σ2 H2 K2 R2 q2=>kb τ2 σ2 H2 (K1.trans K2) R2 q2,fun τ2 σ2 H2 K2 R2 q2=>kc τ2 σ2 H2 (K1.trans K2) R2 q2⟩
abbrev TGt:=T->List Slot->(List Slot->Prop)->Prop
abbrev TGts:=List T->List Slot->(List Slot->Prop)->Prop
def upG(K:PySem.W.Frag)(H0:Hp)(g:TGt):TG:=fun v σ H Q=>∃(t:T) (τ:List Slot) (Q0:List Slot->Prop),RepSt K H0 H σ τ/\Rep K H t v/\g t τ Q0/\∀τ' σ' H',Same H H'->RepSt K H0 H' σ' τ'->Q0 τ'->Q σ' H'
def upGs(K:PySem.W.Frag)(H0:Hp)(g:TGts):TGs:=fun vs σ H Q=>∃(ts:List T) (τ:List Slot) (Q0:List Slot->Prop),RepSt K H0 H σ τ/\Reps K H ts vs/\g ts τ Q0/\∀τ' σ' H',Same H H'->RepSt K H0 H' σ' τ'->Q0 τ'->Q σ' H'
def JG(X:Cx)(tg:Expr)(g:TGt):Prop:=PG X tg (upG X.K X.H₀ g)
def JGs(X:Cx)(tgs:List Expr)(g:TGts):Prop:=PGs X tgs (upGs X.K X.H₀ g)
theorem pg_of{tg:Expr}{t t':TG}(h:PG X tg t)(f:∀v σ H Q,t' v σ H Q->t v σ H Q):PG X tg t':=fun pins s σ H v u Q I r hw=>h pins s σ H v u Q I r (f v σ H Q hw)
theorem pgs_of{tg:List Expr}{t t':TGs}(h:PGs X tg t)(f:∀v σ H Q,t' v σ H Q->t v σ H Q):PGs X tg t':=fun pins s σ H v u Q I r hw=>h pins s σ H v u Q I r (f v σ H Q hw)
def gN(i:Nat):TGt:=fun t τ Q=>Q (sput τ i (.val t))
theorem jg{i:Nat}{x:Str}(hN:X.N.Nodup)(hi:X.N[i]?=some x)(hx:Loc X.env.scope x)(hf:X.fn x=true∨X.env.scope.names.lookup x=some .local:=by first|exact .inl rfl|exact .inr rfl|assumption):JG X (.Name x pos) (gN i) :=
 pg_of (pg_name hN hi hx hf) fun v σ H Q ⟨t,τ,Q0,R,r,hw,k⟩=>k _ _ H (.refl H) (R.put r) hw
def gs0:TGts:=fun ts τ Q=>match ts with|[]=>Q τ|_=>False
def gsC(g:TGt)(gs:TGts):TGts:=fun ts τ Q=>match ts with|t::r=>g t τ fun τ'=>gs r τ' Q|[]=>False
theorem jgs0:JGs X [] gs0:=pgs_of pgs_nil fun vs σ H Q ⟨ts,τ,Q0,R,r,hw,k⟩=>by
 cases ts with
 | nil=>exact⟨reps_nil.mp r,k τ σ H (.refl H) R hw⟩
 | cons t r=>exact hw.elim
theorem jgsc{e:Expr}{es:List Expr}{g:TGt}{gs:TGts}(h1:JG X e g)(h2:JGs X es gs)(hs:(assignEach (e::es) X.env).map (·.2)=assign e X.env::(assignEach es X.env).map (·.2):=by rfl):JGs X (e::es) (gsC g gs) :=
 pgs_of (pgs_cons h1 h2 hs) fun vs σ H Q ⟨ts,τ,Q0,R,r,hw,k⟩=>by
  cases ts with
  | nil=>exact hw.elim
  | cons t ts =>
   rw[reps_cons]at r
   obtain⟨v,vr,e1,r1,r2⟩:=r
   exact⟨v,vr,e1,t,τ,_,R,r1,hw,fun τ1 σ1 H1 S1 R1 q1=>⟨ts,τ1,Q0,R1,r2.kp (.of S1),q1,fun τ2 σ2 H2 S2 R2 q2=>k τ2 σ2 H2 (S1.trans S2) R2 q2⟩⟩
theorem draw_list{prog:Program}{w:World}{A:Around}{E:Value->Shared->Prop}{it l:Addr}{items:Array Value}(hne:l≠it):∀(n i:Nat)(s:Shared)(Q:List Value->Shared->Prop),s.heap.IsListIter it l i->s.heap.IsList l items->i + n<=items.size →
  (∀h',h'.IsListIter it l (i + n)->Heap.SameBut it s.heap h'->Q ((items.toList.drop i).take n) {s with heap:=h' })->wpAny (model prog w) A (draw (.ref it) n) Q E s
 | 0,i,s,Q,hit,_,_,hQ=>by
  show wpAny _ _ (pure []) Q E s
  exact wpAny_pure (by simpa using hQ s.heap hit (Heap.SameBut.refl ..))
 | n + 1,i,s,Q,hit,ht,hle,hQ=>by
  have hlt:i < items.size:=by omega
  show wpAny _ _ (pyNext (.ref it) >>= _) Q E s
  refine wpAny_bind (wpAny_pyNext_list_item hit ht (x:=items[i]) (by simp[hlt]) fun h₁ hit₁ hs₁=>?_)
  refine wpAny_bind (wpAny_holding (draw_list hne n (i + 1) _ _ hit₁ (ht.extBut hs₁.extBut hne) (by omega) fun h₂ hit₂ hs₂=>wpAny_pure ?_))
  have hd:items.toList.drop i=items[i]::items.toList.drop (i + 1):=by simp[List.drop_eq_getElem_cons,hlt]
  have:=hQ h₂ (by rw[show i + (n + 1)=i + 1 + n by omega];exact hit₂) (hs₁.trans hs₂)
  rw[hd,List.take_succ_cons]at this
  exact this
theorem unpackItems_list{prog:Program}{w:World}{A:Around}{E:Value->Shared->Prop}{s:Shared}{t:Addr}{items:Array Value}{Q:List Value->Shared->Prop}(hh:A.handled=none)(ht:s.heap.IsList t items)
  (hQ:∀h',Heap.ExtBut s.heap.objs.size s.heap h'->Q items.toList {s with heap:=h' }):wpAny (model prog w) A (unpackItems (.ref t) items.size none) Q E s:=by
 have hlt:t≠s.heap.objs.size:=by obtain⟨o,ho,_⟩:=ht;exact Nat.ne_of_lt (Heap.lt_size ho)
 unfold unpackItems
 refine wpAny_bind ?_
 ·unfold notIterableAtAll
  refine wpAny_bind (wpAny_specialOf ht.typeIs slot_list_iter.lookup ?_)
  refine wpAny_pure ?_
  simp only[Bool.false_eq_true,if_false]
  refine wpAny_bind (wpAny_holding (wpAny_pyIter_list ht ?_))
  have htp:(s.heap.push {cls:=.type "list_iterator", data:=.fields #[.ref t,.int 0 0]}).IsList t items:=by
   obtain⟨o,ho,r⟩:=ht
   exact⟨o,Heap.get?_push_of_some _ ho,r⟩
  refine wpAny_bind (wpAny_holding (draw_list hlt items.size 0 _ _ ⟨_,Heap.get?_push_size _ rfl,rfl,rfl⟩ htp (by omega) fun h₁ hit₁ hs₁=>?_))
  have hall:List.take items.size (List.drop 0 items.toList)=items.toList:=by
   rw[List.drop_zero];exact List.take_of_length_le (by simp)
  rw[hall]
  rw[if_neg (by simp)]
  have ht₁:h₁.IsList t items:=htp.extBut hs₁.extBut hlt
  refine wpAny_bind (wpAny_holding (wpAny_pyNext_list_end hh hit₁ ht₁ (by simp) fun h₂ he₂=>?_))
  simp only[Option.isSome_none,Bool.false_eq_true,if_false]
  refine wpAny_pure (hQ h₂ fun b o hb e=>he₂ b o hb (hs₁.extBut b o hb (Heap.get?_push_of_some _ e)))
theorem assign_Tuple_list{prog:Program}{w:World}{A:Around}{E:Value->Shared->Prop}{s:Shared}{env:Env}{elts:List Expr}{x1}{pos:Pos}{t:Addr}{items:Array Value}{Q:Unit->Shared->Prop}(hh:A.handled=none)(ht:s.heap.IsList t items)
  (hn:(assignEach elts env).length=items.size) (hstar:(assignEach elts env).findIdx? (·.1)=none)
  (h:∀h',Heap.ExtBut s.heap.objs.size s.heap h'->wpAny (model prog w) A (assignInOrder ((assignEach elts env).map (·.2)) items.toList) Q E {s with heap:=h' }) :
  wpAny (model prog w) A (assign (.Tuple elts x1 pos) env (.ref t)) Q E s:=by
 rw[assign_Tuple]
 refine wpAny_bind (wpAny_standAt ?_)
 unfold unpack
 rw[hn,hstar]
 exact wpAny_bind (wpAny_holding (unpackItems_list hh ht h))
def gT(n:Nat)(gs:TGts):TGt:=fun t τ Q=>match t with
 | .tup ts=>ts.length=n/\gs ts τ Q
 | .lst ts=>ts.length=n/\gs ts τ Q
 | _=>False
theorem jgt{es:List Expr}{k:Nat}{gs:TGts}{n:Nat}(hc:X.calm=true)(h:JGs X es gs)(hn:(assignEach es X.env).length=n:=by rfl)(hst:(assignEach es X.env).findIdx? (·.1)=none:=by rfl):JG X (.Tuple es k pos) (gT n gs):=by
 intro pins s σ H v u Q I r hw
 obtain⟨t,τ,Q0,R,rt,hw,kk⟩:=hw
 cases t<;>first|exact hw.elim|skip
 ·rename_i ts
  rw[rep_tup]at rt
  obtain⟨p,vs,rfl,sq,rr⟩:=rt
  cases r
  obtain⟨its,rv,ht,hz⟩:=I.tuple sq
  refine assign_Tuple_tuple (I.ok.hd hc) ht (by simp[hn,← hw.1,← rr.length,rv.length]) hst fun h' hx=>?_
  have I1:Inv X pins σ H {s with heap:=h' }:=I.kept (t':=s.toks) fun b o e=>hx b o (Nat.ne_of_lt (Heap.lt_size e)) e
  exact h pins _ σ H vs _ Q I1 (by simpa using rv) ⟨ts,τ,Q0,R,rr,hw.2,kk⟩
 ·rename_i ts
  rw[rep_lst]at rt
  obtain⟨p,vs,rfl,sq,rr⟩:=rt
  cases r
  obtain⟨its,rv,ht,hz⟩:=I.list sq.sq
  refine assign_Tuple_list (I.ok.hd hc) ht.isList (by simp[hn,← hw.1,← rr.length,rv.length]) hst fun h' hx=>?_
  have I1:Inv X pins σ H {s with heap:=h' }:=I.kept (t':=s.toks) fun b o e=>hx b o (Nat.ne_of_lt (Heap.lt_size e)) e
  exact h pins _ σ H vs _ Q I1 (by simpa using rv) ⟨ts,τ,Q0,R,rr,hw.2,kk⟩
def sAsg(g:TGt)(w:WE):WS:=fun D τ=>w τ fun t=>g t τ D.nx
theorem jasg{tg:Expr}{g:TGt}(hg:JG X tg g)(he:JE X e w)(hs:swapsWithSole [tg] e pos.line X.env=pure false:=by rfl)(hw:swappedStores [tg] e X.env=pure none:=by rfl)
  (h1:(assignEach [tg] X.env).map (·.2)=[assign tg X.env]:=by rfl):JS X (.Assign [tg] e pos) (sAsg g w) :=
 ps_of (ps_asg he hg hs hw h1) fun D σ H ⟨τ,D0,R,hw,k,_⟩=>⟨τ,_,R,hw,fun t v H' S r q=>⟨t,τ,_,R.mono S,r,q,fun τ' σ' H2 S2 R2 q2=>k τ' σ' H2 (.of (S.trans S2)) R2 q2⟩⟩
def sPar(i j:Nat)(ws:WA):WS:=fun D τ=>ws τ fun ts=>match ts with|[x,y]=>D.nx (sput (sput τ i (.val x)) j (.val y))|_=>False
theorem jpar{i j:Nat}{x y:Str}{px py pt:Pos}{kt k2 pt2}(hc:X.calm=true)(hN:X.N.Nodup)(hi:X.N[i]?=some x)(hj:X.N[j]?=some y)(hij:i≠j)
  (hx:X.env.scope.names.lookup x=some .local) (hy:X.env.scope.names.lookup y=some .local) (ha:JA X [a,b] ws)
  (hw:swappedStores [.Tuple [.Name x px,.Name y py] kt pt] (.Tuple [a,b] k2 pt2) X.env=pure (some [x,y]))
  (hs:swapsWithSole [.Tuple [.Name x px,.Name y py] kt pt] (.Tuple [a,b] k2 pt2) pos.line X.env=pure false:=by rfl) :
  JS X (.Assign [.Tuple [.Name x px,.Name y py] kt pt] (.Tuple [a,b] k2 pt2) pos) (sPar i j ws) :=
 ps_of (ps_par hc hN hi hj hij hx hy ha hw hs) fun D σ H ⟨τ,D0,R,hw,k,_⟩=>⟨τ,_,R,hw,fun ts vs H' S r q=>by
  unfold sPar at hw
  match ts,r,q with
  | [x,y],r,q =>
   obtain⟨v,v',rfl,r1,r2⟩:=reps2 r
   exact⟨v,v',rfl,k _ _ H' (.of S) (((R.mono S).put r1).put r2) q⟩
  | [],_,q=>exact q.elim
  | [_],_,q=>exact q.elim
  | _::_::_::_,_,q=>exact q.elim⟩
def sWhile(ua:WT)(t:WS):WS:=fun D τ=>∃I:Nat->List Slot->Prop,(∃m,I m τ)/\∀m τ,I m τ->ua τ fun k =>
 (k=true->t {D with nx:=fun τ'=>∃m',m' < m/\I m' τ',ct:=fun τ'=>∃m',m' < m/\I m' τ',bk:=D.nx} τ)/\(k=false->D.nx τ)
theorem jwhile{c:Expr}{body:List Stmt}(hp:PassesOwn (model X.prog X.w) X.A X.env X.xe)(hc:JT X c ua)(hb:JSs X body t):JS X (.While c body [] pos) (sWhile ua t) :=
 ps_of (ps_while hp hc hb) fun D σ H ⟨τ,D0,R,⟨I,⟨m0,h0⟩,turn⟩,kn,kr,kb,kc⟩=>by
  refine⟨fun m σ' H'=>∃τ',RepSt X.K X.H₀ H' σ' τ'/\Kp H H'/\I m τ',⟨m0,τ,R,.refl H,h0⟩,fun m σ1 H1 ⟨τ1,R1,K1,i1⟩=>?_⟩
  refine⟨τ1,_,R1,turn m τ1 i1,fun k H2 S2 q=>?_⟩
  cases k with
  | true =>
   rw[if_pos rfl]
   have K2:=K1.trans (.of S2)
   have nx:∀τ' σ' H',Kp H2 H'->RepSt X.K X.H₀ H' σ' τ'->(∃m',m' < m/\I m' τ')->∃m',m' < m/\∃τ',RepSt X.K X.H₀ H' σ' τ'/\Kp H H'/\I m' τ':=fun τ' σ' H' K3 R3 ⟨m',lt,i3⟩=>⟨m',lt,τ',R3,K2.trans K3,i3⟩
   exact⟨fun σ' H'=>∃m',m' < m/\∃τ',RepSt X.K X.H₀ H' σ' τ'/\Kp H H'/\I m' τ',fun σ' H' z=>z,τ1,_,R1.mono S2,q.1 rfl,nx,kr,fun τ' σ' H' K3 R3 q3=>kn τ' σ' H' (K2.trans K3) R3 q3,nx⟩
  | false =>
   rw[if_neg Bool.false_ne_true]
   exact kn τ1 σ1 H2 (K1.trans (.of S2)) (R1.mono S2) (q.2 rfl)
abbrev WI:=List Slot->(List T->Prop)->Prop
def Wk(K:PySem.W.Frag)(J:It)(ts:List T)(H1:Hp):Prop:=∀H2,Kp H1 H2->(∀i t,ts[i]?=some t->J.go i H2/\∀x H3,J.yld i H2 x H3->Same H2 H3/\Rep K H3 t x)/\J.stop ts.length H2
def upI(K:PySem.W.Frag)(H0:Hp)(w:WI):TI:=fun σ H R=>∃(τ:List Slot) (Q0:List T->Prop),RepSt K H0 H σ τ/\w τ Q0/\∀ts J H',Same H H'->Wk K J ts H'->Q0 ts->R J H'
def JI(X:Cx)(tg iter:Expr)(w:WI):Prop:=PI X tg iter (upI X.K X.H₀ w)
theorem pi_of{tg iter:Expr}{t t':TI}(h:PI X tg iter t)(f:∀σ H R,t' σ H R->t σ H R):PI X tg iter t':=fun pins s σ H R I hw=>h pins s σ H R I (f σ H R hw)
def forT(g:TGt)(t:WS):List T->WS
 | [],D,τ=>D.nx τ
 | x::xs,D,τ=>g x τ fun τ1=>t {D with nx:=forT g t xs D,ct:=forT g t xs D,bk:=D.nx} τ1
def sFor(wi:WI)(g:TGt)(t:WS):WS:=fun D τ=>wi τ fun ts=>forT g t ts D τ
theorem jfor{tg iter:Expr}{body:List Stmt}{wi:WI}{g:TGt}(hp:PassesOwn (model X.prog X.w) X.A X.env X.xe)(hc:X.calm=true)(hi:JI X tg iter wi)(hg:JG X tg g)(hb:JSs X body t)
  (hs:∀x,foldedSetIterable iter X.env x=pure x:=by intro _;rfl):JS X (.For tg iter body [] pos) (sFor wi g t) :=
 ps_of (ps_for hp hc hi hg hb hs) fun D σ H ⟨τ,D0,R,hw,kn,kr,kb,kc⟩=>by
  refine⟨τ,_,R,hw,fun ts J H1 S1 wk q=>?_⟩
  have K0:=Kp.of S1
  refine⟨fun i m σ' H'=>m=ts.length - i/\i<=ts.length/\∃τ',RepSt X.K X.H₀ H' σ' τ'/\Kp H1 H'/\forT g t (ts.drop i) D0 τ',⟨ts.length,by simp,Nat.zero_le _,τ,R.mono S1,.refl H1,by simpa using q⟩,?_⟩
  rintro i m σ2 H2 ⟨rfl,hi,τ2,R2,K2,q2⟩
  obtain⟨wi,ws⟩:=wk H2 K2
  by_cases hlt:i < ts.length
  ·refine .inr ?_
   have ei:ts[i]?=some ts[i]:=List.getElem?_eq_getElem hlt
   obtain⟨go,yl⟩:=wi i _ ei
   rw[List.drop_eq_getElem_cons hlt]at q2
   refine⟨go,fun σ' H'=>∃τ',RepSt X.K X.H₀ H' σ' τ'/\Kp H1 H'/\forT g t (ts.drop (i + 1)) D0 τ',fun σ' H' ⟨τ',R',K',q'⟩=>⟨ts.length - (i + 1),by omega,rfl,hlt,τ',R',K',q'⟩,fun x H3 y=>?_⟩
   obtain⟨S3,r3⟩:=yl x H3 y
   refine⟨ts[i],τ2,_,R2.mono S3,r3,q2,fun τ4 σ4 H4 S4 R4 q4=>?_⟩
   have K4:=K2.trans (.of (S3.trans S4))
   have nx:∀τ' σ' H',Kp H4 H'->RepSt X.K X.H₀ H' σ' τ'->forT g t (ts.drop (i + 1)) D0 τ'->∃τ',RepSt X.K X.H₀ H' σ' τ'/\Kp H1 H'/\forT g t (ts.drop (i + 1)) D0 τ':=fun τ' σ' H' K5 R5 q5=>⟨τ',R5,K4.trans K5,q5⟩
   exact⟨τ4,_,R4,q4,nx,kr,fun τ' σ' H' K5 R5 q5=>kn τ' σ' H' (K0.trans (K4.trans K5)) R5 q5,nx⟩
  ·have e:i=ts.length:=by omega
   subst e
   rw[List.drop_length]at q2
   exact .inl ⟨ws,kn τ2 σ2 H2 (K0.trans K2) R2 q2⟩
def iSeq(w:WE):WI:=fun τ Q=>w τ fun t=>match t with
 | .tup ts=>Q ts
 | .lst ts=>Q ts
 | _=>False
theorem jiSeq{tg l:Expr}(h:JE X l w):JI X tg l (iSeq w):=by
 intro pins s σ H R I hw
 obtain⟨τ,Q0,Rs,hw,k⟩:=hw
 refine thn (h pins s σ H (fun v H1=>∃t,Same H H1/\Rep X.K H1 t v/\(match t with | .tup ts=>Q0 ts | .lst ts=>Q0 ts|_=>False)) I ⟨τ,_,Rs,hw,fun t v H1 S r q=>⟨t,S,r,q⟩⟩) fun v s1 ⟨x,H1,I1,r1,t,S1,rt,q1⟩=>?_
 cases t<;>first|exact q1.elim|skip
 ·rename_i ts
  rw[rep_tup]at rt
  obtain⟨a,vs,rfl,hq,rr⟩:=rt
  cases r1
  obtain⟨its,rv,p,hz⟩:=I1.tuple hq
  refine wpAny_pyIter_tuple (show s1.heap.IsTuple a its.toArray from p) ?_
  refine⟨s1.heap.objs.size,[s1.heap.objs.size],_,_,H1,rfl,I1.kept (t':=s1.toks) fun b o e=>Heap.get?_push_of_some _ e,turn_tuple a _,⟨_,Heap.get?_push_size _ rfl,rfl,rfl⟩,fun b hb=>?_,k ts (Itt X.K a) H1 S1 ?_ q1⟩
  ·have e:b=s1.heap.objs.size:=by simpa using hb
   subst e
   exact I1.fpOk (Nat.le_refl _) (I1.hok.fresh (Nat.le_refl _))
  ·intro H2 K2
   have sq2:=sqT_kp K2 hq
   refine⟨fun i t ei=>?_,⟨vs,sq2,by rw[rr.length];exact Nat.le_refl _⟩⟩
   obtain⟨v,ev,rv⟩:=rr.get ei
   refine⟨⟨vs,v,sq2,ev⟩,fun x H3 y=>?_⟩
   obtain⟨rfl,y⟩:=y
   have z:=y vs sq2
   rw[ev]at z
   cases z
   exact⟨.refl _,rv.kp K2⟩
 ·rename_i ts
  rw[rep_lst]at rt
  obtain⟨a,vs,rfl,hq,rr⟩:=rt
  cases r1
  obtain⟨its,rv,p,hz⟩:=I1.list hq.sq
  refine wpAny_pyIter_list p.isList ?_
  refine⟨s1.heap.objs.size,[s1.heap.objs.size],_,_,H1,rfl,I1.kept (t':=s1.toks) fun b o e=>Heap.get?_push_of_some _ e,turn_list a _,⟨_,Heap.get?_push_size _ rfl,rfl,rfl⟩,fun b hb=>?_,k ts (Itl X.K a) H1 S1 ?_ q1⟩
  ·have e:b=s1.heap.objs.size:=by simpa using hb
   subst e
   exact I1.fpOk (Nat.le_refl _) (I1.hok.fresh (Nat.le_refl _))
  ·intro H2 K2
   have sq2:=(sqF_kp K2 hq).sq
   refine⟨fun i t ei=>?_,⟨vs,sq2,by rw[rr.length];exact Nat.le_refl _⟩⟩
   obtain⟨v,ev,rv⟩:=rr.get ei
   refine⟨⟨vs,v,sq2,ev⟩,fun x H3 y=>?_⟩
   obtain⟨rfl,y⟩:=y
   have z:=y vs sq2
   rw[ev]at z
   cases z
   exact⟨.refl _,rv.kp K2⟩
def rangeT:Int->Nat->List T
 | _,0=>[]
 | lo,n + 1=>.int lo::rangeT (lo + 1) n
theorem rangeT_length:∀(lo:Int)(n:Nat),(rangeT lo n).length=n
 | _,0=>rfl
 | lo,n + 1=>by simp[rangeT,rangeT_length (lo + 1) n]
theorem rangeT_get:∀(lo:Int)(n i:Nat),i < n->(rangeT lo n)[i]?=some (.int (lo + i))
 | _,0,_,h=>by omega
 | lo,n + 1,0,_=>by simp[rangeT]
 | lo,n + 1,i + 1,h=>by
  simp only[rangeT,List.getElem?_cons_succ]
  rw[rangeT_get (lo + 1) n i (by omega)]
  congr 2
  push_cast
  omega
theorem wk_range{K:PySem.W.Frag}{H:Hp}(lo:Int)(n:Nat):Wk K (Itr lo n) (rangeT lo n) H:=by
 intro H2 _
 refine⟨fun i t ei=>?_,by show n<=_;rw[rangeT_length];exact Nat.le_refl _⟩
 have hi:i < n:=by
  have:=(List.getElem?_eq_some_iff.mp ei).1
  rwa [rangeT_length]at this
 rw[rangeT_get lo n i hi]at ei
 cases ei
 refine⟨hi,fun x H3 y=>?_⟩
 obtain⟨rfl,rfl⟩:=y
 exact⟨.refl _,rep_int.mpr rfl⟩
def iRange1(ws:WA):WI:=fun τ Q=>ws τ fun ts=>match ts with
 | [.int j]=>(-(2 ^ 62)<=j/\j < 2 ^ 62)/\Q (rangeT 0 j.toNat)
 | _=>False
theorem one_int{P:Int->Prop}{ts:List T}(h:match ts with|[.int j]=>P j|_=>False):∃j,ts=[.int j]/\P j:=by
 split at h
 ·exact⟨_,rfl,h⟩
 ·exact h.elim
theorem jiRange1{tg:Expr}{p:Pos} (hg:Gl X "range") (hm:X.mg "range" = none) (ha:JA X [a] ws) (hs:starEach [a] X.env=[(false,eval a X.env)]:=by rfl):JI X tg (.Call (.Name "range" p) [a] [] pos) (iRange1 ws) :=
 pi_of (pi_range1 hg hm ha hs) fun σ H R ⟨τ,Q0,Rs,hw,k⟩=>⟨τ,_,Rs,hw,fun ts vs H1 S1 r q=>by
   obtain⟨j,e0,q⟩:=one_int (P:=fun j=>(-(2 ^ 62)<=j/\j < 2 ^ 62)/\Q0 (rangeT 0 j.toNat)) q
   subst e0
   obtain⟨v,rfl,r1⟩:=reps1 r
   exact⟨j,by rw[rep_int.mp r1],q.1.1,q.1.2,k _ _ H1 S1 (wk_range 0 j.toNat) q.2⟩⟩
def iRange2(ws:WA):WI:=fun τ Q=>ws τ fun ts=>match ts with
 | [.int i,.int j]=>(-(2 ^ 62)<=i/\i < 2 ^ 62 /\ -(2 ^ 62)<=j/\j < 2 ^ 62)/\Q (rangeT i (j - i).toNat)
 | _=>False
end
end TL
end
section
namespace TL
open PySem PySem.Spec PyProof.Rows L2
section
variable {X:Cx} {pins:List (Addr×Obj)} {σ:St} {H:Hp} {s:Shared} {h':Heap}
theorem Inv.turnedT{t':Nat}{ch:List Addr}{p:Addr}{xs:List V}{us:List Value}(I:Inv X pins σ H s)(k:∀b o,b∉ch->s.heap.get? b=some o->h'.get? b=some o)(kt:∀b∈ch,∃o,h'.get? b=some o)
  (hch:∀b∈ch,FpOk X pins H b) (hp:s.heap.objs.size<=p) (hz:xs.length<=sizeLine) (r:Vals xs us) (ht:IsTup h' p us.toArray):Inv X pins σ (upd H p (.tup xs)) {s with heap:=h',toks:=t' }:=by
 have hpn:H p=none:=I.hok.fresh hp
 have nch:∀b u,H b=some u->b∉ch:=fun b u e z=>by rw[(hch b z).1]at e;cases e
 have nep:∀b u,H b=some u->b≠p:=fun b u e z=>by subst z;rw[hpn]at e;cases e
 have nlt:∀b o,s.heap.get? b=some o->b≠p:=fun b o e=>Nat.ne_of_lt (Nat.lt_of_lt_of_le (Heap.lt_size e) hp)
 refine I.step (g':=s.gens) (d':=s.drawn) (ch:=ch) (fun b hb=>?_) (fun b o _ _ hc e _=>k b o hc e) (fun b o _ _ hc e _=>⟨o.slots,k b o hc e⟩) (fun b o _ e n=>by rw[upd_ne (nlt b o e)];exact n)
  (fun b o hc e=>⟨o,k b o hc e⟩) (fun b ys e=>by rw[upd_ne (nep b _ e)];exact e) (fun b o u e=>by rw[upd_ne (nep b _ e)];exact e) (fun b ps e=>⟨#[],by rw[upd_ne (nep b _ e),e];simp⟩) (fun m hm=>?_) (fun b u e=>?_) I.bare
 ·obtain⟨f0,f1,f2,f3,f4,f5⟩:=hch b hb
  exact⟨f3,f1,f4,f5⟩
 ·obtain⟨o,es,ep,ho,r⟩:=hm
  exact⟨o,es,ep,k _ o (fun z=>(hch _ z).2.1 rfl) ho,r⟩
 ·by_cases hb:b=p
  ·subst hb
   rw[upd_same]at e
   cases e
   exact⟨hz,us,r,ht⟩
  ·rw[upd_ne hb]at e
   refine(I.hok b u e).stay (fun c v hc q=>k c v ?_ q) (fun c q=>by rw[upd_ne (nep c _ q)];exact q) fun c ys q=>by rw[upd_ne (nep c _ q)];exact q
   rcases hc with z|z
   ·rw[z];exact nch b u e
   ·exact nch c _ z
theorem Inv.turnedL{t':Nat}{ch:List Addr}(I:Inv X pins σ H s)(k:∀b o,b∉ch->s.heap.get? b=some o->h'.get? b=some o)
  (hch:∀b∈ch,FpOk X pins H b):Inv X pins σ H {s with heap:=h',toks:=t' }:=by
 have nch:∀b u,H b=some u->b∉ch:=fun b u e z=>by rw[(hch b z).1]at e;cases e
 refine I.step (g':=s.gens) (d':=s.drawn) (ch:=ch) (fun b hb=>?_) (fun b o _ _ hc e _=>k b o hc e) (fun b o _ _ hc e _=>⟨o.slots,k b o hc e⟩) (fun b o _ e n=>n)
  (fun b o hc e=>⟨o,k b o hc e⟩) (fun b ys e=>e) (fun b o u e=>e) (fun b ps e=>⟨#[],by rw[e];simp⟩) (fun m hm=>?_) (fun b u e=>?_) I.bare
 ·obtain⟨f0,f1,f2,f3,f4,f5⟩:=hch b hb
  exact⟨f3,f1,f4,f5⟩
 ·obtain⟨o,es,ep,ho,r⟩:=hm
  exact⟨o,es,ep,k _ o (fun z=>(hch _ z).2.1 rfl) ho,r⟩
 ·refine(I.hok b u e).stay (fun c v hc q=>k c v ?_ q) (fun _ q=>q) fun _ _ q=>q
  rcases hc with z|z
  ·rw[z];exact nch b u e
  ·exact nch c _ z
end
def Ite(K:PySem.W.Frag)(a:Addr):It :=
 ⟨fun i H=>∃xs x,SqL K H a xs/\xs[i]?=some x,fun i H x H'=>∃p y,H p=none/\x=.ref p/\H'=upd H p (.tup [.int i,y])/\∀xs,SqL K H a xs->xs[i]?=some y,fun i H=>∃xs,SqL K H a xs/\xs.length<=i⟩
theorem turn_enum{P:Program}{w:World}{K:PySem.W.Frag}{elts:List Expr}{x1}{tp:Pos}(a it en:Addr)(hne:en≠it) :
  Turn P w K (.Tuple elts x1 tp) (Ite K a) [en,it] en (fun i h=>(∃old,IsEnum h en it i old)/\h.IsListIter it a i) where
 mem:=by simp
 obj:=fun i h st b hb=>by
  obtain⟨⟨old,he⟩,o,e,c,d⟩:=st
  rcases List.mem_cons.mp hb with rfl|hb
  ·exact⟨_,he,fun v z=>by cases z⟩
  ·have e':b=it:=by simpa using hb
   subst e'
   exact⟨o,e,fun v z=>by rw[d]at z;cases z⟩
 keep:=fun i h h' st k=>⟨let ⟨old,he⟩:=st.1;⟨old,k en (by simp) _ he⟩,st.2.at fun o e=>k it (by simp) o e⟩
 item:=by
  intro X hP hw hK hc i pins s σ H E I hf st hg
  subst hP hw hK
  obtain⟨⟨old,he⟩,hit⟩:=st
  obtain⟨xs,x,hq,hx⟩:=hg
  obtain⟨its,rv,p,hz⟩:=I.list hq
  obtain⟨u,hu,ru⟩:=rv.get hx
  refine wpAny_pyNext_enum_item he hit p.isList (x:=u) (by simpa using hu) hne fun h1 heo hit1 ht1 hz1 hk1=>⟨_,rfl,?_⟩
  refine wpAny_letOwnedTupleGo_enum heo fun h2 he2 hs2=>?_
  have hpn:H s.heap.objs.size=none:=I.hok.fresh (Nat.le_refl _)
  have lt:∀b∈[en,it],b < s.heap.objs.size:=fun b hb=>by
   rcases List.mem_cons.mp hb with rfl|hb
   ·exact Heap.lt_size he
   ·have e':b=it:=by simpa using hb
    subst e'
    obtain⟨o,e,_⟩:=hit
    exact Heap.lt_size e
  have ht2:IsTup h2 s.heap.objs.size [Value.int i s.toks,u].toArray:=⟨_,(hs2.2 _ (Nat.ne_of_gt (lt en (by simp)))).trans ht1,rfl,_,rfl⟩
  have I2:Inv X pins σ (upd H s.heap.objs.size (.tup [.int i,x])) {s with heap:=h2,toks:=s.toks + 1}:=by
   refine Inv.turnedT (ch:=[en,it]) I (fun b o hb e=>?_) (fun b hb=>?_) hf (Nat.le_refl _) (by show 2<=sizeLine;decide) (.cons ⟨_,rfl⟩ (.cons ru .nil)) ht2
   ·have n1:b≠en:=fun z=>hb (by simp[z])
    have n2:b≠it:=fun z=>hb (by simp[z])
    exact(hs2.2 b n1).trans (hk1 b o n1 n2 e)
   ·rcases List.mem_cons.mp hb with rfl|hb
    ·exact⟨_,he2⟩
    ·have e':b=it:=by simpa using hb
     subst e'
     obtain⟨o,e,_⟩:=hit1
     exact⟨o,(hs2.2 b (Ne.symm hne)).trans e⟩
  refine⟨.ref s.heap.objs.size,_,I2,rfl,⟨_,x,hpn,rfl,rfl,fun ys hy=>by rw[I.list_inj hy hq];exact hx⟩,⟨⟨u,?_⟩,?_⟩,fun b hb=>?_⟩
  ·exact he2
  ·obtain⟨o,e,r⟩:=hit1
   exact⟨o,(hs2.2 it (Ne.symm hne)).trans e,r⟩
  ·rw[upd_ne (Nat.ne_of_lt (lt b hb))]
   exact(hf b hb).1
 done:=by
  intro X hP hw hK hc i pins s σ H E I hf st hg
  subst hP hw hK
  obtain⟨⟨old,he⟩,hit⟩:=st
  obtain⟨xs,hq,hx⟩:=hg
  obtain⟨its,rv,p,hz⟩:=I.list hq
  have hl:=rv.length
  refine wpAny_pyNext_enum_end (I.ok.hd hc) he hit p.isList (by simp;omega) fun h1 eb=>⟨rfl,?_⟩
  refine Inv.turnedL (ch:=[en,it]) I (t':=s.toks) (fun b o hb e=>eb b o (fun z=>hb (by simp[z])) e) hf
 self:=fun _ _ _ _ _ st h=>let ⟨old,he⟩:=st.1;wpAny_pyIter_enum he h
def enumT:Nat->List T->List T
 | _,[]=>[]
 | i,x::xs=>.tup [.int i,x]::enumT (i + 1) xs
theorem enumT_length:∀(i:Nat)(ts:List T),(enumT i ts).length=ts.length
 | _,[]=>rfl
 | i,_::r=>by simp[enumT,enumT_length (i + 1) r]
theorem enumT_get:∀(ts:List T)(j i:Nat)(t:T),ts[i]?=some t->(enumT j ts)[i]?=some (.tup [.int ((j + i:Nat):Int),t])
 | [],_,_,_,h=>by simp at h
 | x::r,j,0,t,h=>by simp at h;subst h;simp[enumT]
 | x::r,j,i + 1,t,h=>by
  simp only[enumT,List.getElem?_cons_succ]
  rw[enumT_get r (j + 1) i t (by simpa using h)]
  congr 5
  omega
section
variable {X:Cx} {a:Expr} {wa w:WE} {ws:WA} {pos:Pos}
def iEnum(ws:WA):WI:=fun τ Q=>ws τ fun ts=>match ts with
 | [.lst xs]=>Q (enumT 0 xs)
 | _=>False
theorem one_lst{P:List T->Prop}{ts:List T}(h:match ts with|[.lst xs]=>P xs|_=>False):∃xs,ts=[.lst xs]/\P xs:=by
 split at h
 ·exact⟨_,rfl,h⟩
 ·exact h.elim
theorem jiEnum{elts:List Expr}{x1}{tp p:Pos} (hg:Gl X "enumerate") (hm:X.mg "enumerate" = none) (ha:JA X [a] ws) (hs:starEach [a] X.env=[(false,eval a X.env)]:=by rfl) :
  JI X (.Tuple elts x1 tp) (.Call (.Name "enumerate" p) [a] [] pos) (iEnum ws):=by
 intro pins s σ H R I hw
 obtain⟨τ,Q0,Rs,hw,k⟩:=hw
 refine Call_ (ld_blt I hg hm boot_enumerate (PyProof.Rows.callWith_type1 (thn (ha pos pins s σ H (fun vs H1=>∃ts,Same H H1/\Reps X.K H1 ts vs/\(match ts with|[.lst xs]=>Q0 (enumT 0 xs)|_=>False)) I ⟨τ,_,Rs,hw,fun ts vs H1 S r q=>⟨ts,S,r,q⟩⟩) fun us s1 ⟨vs,H1,I1,r1,ts,S1,rt,q1⟩=>?_) hs rfl))
 ·obtain⟨xs,e0,q1⟩:=one_lst (P:=fun xs=>Q0 (enumT 0 xs)) q1
  subst e0
  obtain⟨v,rfl,rt1⟩:=reps1 rt
  rw[rep_lst]at rt1
  obtain⟨l,vs,rfl,hq,rr⟩:=rt1
  obtain⟨u,rfl,ru⟩:=vals1 r1
  cases ru
  obtain⟨its,rv,pl,hz⟩:=I1.list hq.sq
  refine call_enumerate_list pl.isList fun h2 he hit hsz hk=>?_
  refine wpAny_pyIter_enum he ?_
  have I2:Inv X pins σ H1 {s1 with heap:=h2}:=I1.kept (t':=s1.toks) hk
  refine⟨s1.heap.objs.size + 1,[s1.heap.objs.size + 1,s1.heap.objs.size],_,Ite X.K l,H1,rfl,I2,turn_enum l s1.heap.objs.size (s1.heap.objs.size + 1) (Nat.succ_ne_self _),⟨⟨_,he⟩,hit⟩,fun b hb=>?_,k _ _ H1 S1 ?_ q1⟩
  ·have hb':s1.heap.objs.size<=b:=by
    rcases List.mem_cons.mp hb with rfl|hb
    ·exact Nat.le_succ _
    ·have e:b=s1.heap.objs.size:=by simpa using hb
     rw[e]
     exact Nat.le_refl _
   exact I1.fpOk hb' (I1.hok.fresh hb')
  ·intro H2 K2
   have sq2:=(sqF_kp K2 hq).sq
   refine⟨fun i t ei=>?_,⟨vs,sq2,by rw[rr.length,enumT_length];exact Nat.le_refl _⟩⟩
   have hi:i < xs.length:=by
    have:=(List.getElem?_eq_some_iff.mp ei).1
    rwa [enumT_length]at this
   have ex:xs[i]?=some xs[i]:=List.getElem?_eq_getElem hi
   rw[enumT_get xs 0 i _ ex]at ei
   cases ei
   obtain⟨v,ev,rv⟩:=rr.get ex
   refine⟨⟨vs,v,sq2,ev⟩,fun x H3 y=>?_⟩
   obtain⟨p,y,hp,rfl,rfl,hy⟩:=y
   have z:=hy vs sq2
   rw[ev]at z
   cases z
   refine⟨same_new hp _,rep_tup.mpr ⟨p,_,rfl,SqT.of upd_same,.cons (rep_int.mpr ?_) (.one ((rv.kp K2).kp (.of (same_new hp _))))⟩⟩
   simp
end
end TL
end
section
namespace TL
open PySem PySem.Spec PyProof.Rows L2
def Cal(P:Program)(w:World)(K:PySem.W.Frag)(mg:Str->Option Value)(base:Heap)(k:Nat)(x:Str)(ps:List Str)(S:SpT):Prop :=
 ∃f fd,FnT P w K mg base k f fd ps S/\Binds K fd ps []/\PySem.W.keepIn K (.ref f)=true/\mg x=some (.ref f)
theorem Cal.mk{P:Program}{w:World}{K:PySem.W.Frag}{mg:Str->Option Value}{base:Heap}{k:Nat}{x qual:Str}{ps:List Str}{S:SpT}{st:Stmt}{f:Addr}{fd:FuncData}(F:Fun K x qual st f fd)(m:mg x=some (.ref f))
  (b:Binds K fd ps []) (h:FnT P w K mg base k f fd ps S):Cal P w K mg base k x ps S:=⟨f,fd,h,b,F.kp,m⟩
section
variable {X:Cx} {a b c e:Expr} {es:List Expr} {wa wb wc w:WE} {ws:WA} {pos:Pos} {st:Stmt}
theorem jcallC{k:Nat}{ps:List Str}{S:SpT}{x:Str}{p:Pos}(C:Cal X.prog X.w X.K X.mg X.base k x ps S)(hr:Room k X.A)(hg:Gl X x)
  (ha:JA X (e::es) ws) (hdb:(x==("__debug__" : Str))=false:=by decide) (he:starEach (e::es) X.env=(false,eval e X.env)::starEach es X.env:=by exact star1 rfl)
  (hpl:(backTo pos (starEach es X.env)).any (·.1)=false:=by exact stars rfl):JE X (.Call (.Name x p) (e::es) [] pos) (wCall S ws):=by
 obtain⟨f,fd,F,hb,hk,hm⟩:=C
 exact jcall F hr hg hm hk hb ha hdb he hpl
def sNever:WS:=fun _ _=>False
theorem jnever:JS X st sNever:=ps_of ps_never fun D σ H ⟨τ,D0,R,hw,_⟩=>hw.elim
def GlV(K:PySem.W.Frag)(t:T)(u:Value):Prop:=∃v,RelV v u/\∀H,Rep K H t v
def GlC(K:PySem.W.Frag)(mg:Str->Option Value)(x:Str)(t:T):Prop:=∃u,mg x=some u/\GlV K t u
theorem jglobC{x:Str}{t:T}{pos:Pos}(g:GlC X.K X.mg x t)(hg:Gl X x) (hd:(x==("__debug__" : Str))=false:=by decide):JE X (.Name x pos) (wC t):=by
 obtain⟨u,hm,v,r,q⟩:=g
 exact jglob hg hm r q hd
end
def lawSp:SpT:=fun ts Q=>∃ns:List Int,ts=[.lst (ns.map T.int)]/\ns.length<=63/\Q (.bl true)
theorem len_law:∀ts Q,lawSp ts Q->ts.length=1:=fun ts Q ⟨ns,e,_⟩=>by subst e;rfl
theorem law_start{K:PySem.W.Frag}{H:Hp}{a:Addr}{ns:List Int}(hl:ns.length<=63)(hO:Only H)(hS:SqL K H a (ns.map V.int)):spT K 1 lawSp [.ref a] H (fun v _=>v=.bl true) fun _ _ _=>False:=by
 have sq:SqF K H a (ns.map V.int):=by
  rcases hS with (h|⟨o,h⟩)|h
  ·rcases hO a with z|⟨o,xs,z⟩
   ·rw[z]at h;cases h
   ·rw[z]at h;cases h
  ·exact .inl ⟨o,h⟩
  ·exact .inr h
 exact⟨_,fun t=>t=.bl true,rfl,.one (rep_lst.mpr ⟨a,_,rfl,sq,reps_ints ns⟩),⟨ns,rfl,hl,rfl⟩,fun t v H' S r q=>by subst q;exact rep_bl.mp r⟩
theorem walk{l:PySem.W.OpenLaw}{k:Nat}{x:Str}{q:Program}{loose:List Str}{XP:(Str->Option Value)->Heap->Prop}{YP:World->Heap->Prop}{d:DefRec}{K:Params->PySem.W.Frag}(hn:l.most=some 63)(hdf:d.params.defaults=[])(hr:Room k callerA)
  (hY:∀(w:World)(h:Heap),YP w h->(K w.params).In h)
  (F:∀(w:World)(mg:Str->Option Value)(fa:Addr)(h:Heap),(K w.params).In h->h.Ns mainGlobals mg->mg d.name=some (.ref fa) →
   ∃fd:FuncData,(∀(s:Shared)(u:Value),BindsTo s fd ⟨[u],[]⟩ [(x,u)])/\∀base:Heap,(K w.params).In base->base.Ns mainGlobals mg->FnOk l.prog w (K w.params) mg base CX0 k fa fd [x] (spT (K w.params) 1 lawSp)) :
  PySem.W.WalkO q loose XP YP l.row.toRowW d [] (fun f vs=>PySem.call f vs) :=
 L2.walk_of (n:=63) (k:=k) (x:=x) (CX:=fun _=>CX0) (sp:=fun w=>spT (K w.params) 1 lawSp) hn (by decide) hdf hr hY F (fun _ _ _ _ hl hO hS=>law_start hl hO hS) fun _ _ _ _ _ z=>z
end TL
end
section
namespace TL
open PySem PySem.Spec PyProof.Rows L2
theorem closLoop{env:Env}:∀(names:List (Str×NameKind))(cs:List (Str×Addr)),(∀x∈names,x.2=.free->∃c,env.cells.lookup x.1=some c)->(∀x c,cs.lookup x=some c->env.cells.lookup x=some c) →
  ∃cl,(forIn names cs fun x cs=>(if (x.2==NameKind.free)=true then do let a ← cellOf env x.1;pure (ForInStep.yield ((x.1,a)::cs)) else pure (ForInStep.yield cs):Sem (ForInStep (List (Str×Addr)))))=(pure cl:Sem (List (Str×Addr))) ∧
   (∀x c,cl.lookup x=some c->env.cells.lookup x=some c)/\(∀x c,cs.lookup x=some c->∃c,cl.lookup x=some c)/\∀x∈names,x.2=.free->∃c,cl.lookup x.1=some c
 | [],cs,_,hc=>⟨cs,rfl,hc,fun x c e=>⟨c,e⟩,fun _ h=>nomatch h⟩
 | (n,k)::r,cs,h,hc=>by
  by_cases hk:k=.free
  ·subst hk
   obtain⟨c,ec⟩:=h (n,.free) List.mem_cons_self rfl
   have e0:cellOf env n=pure c:=by unfold cellOf;rw[ec]
   obtain⟨cl,e,p1,p2,p3⟩:=closLoop (env:=env) r ((n,c)::cs) (fun x hx=>h x (List.mem_cons_of_mem _ hx)) (fun x d e=>by
    by_cases hx:x=n
    ·subst hx
     simp at e
     subst e
     exact ec
    ·have hb:(x==n)=false:=by simpa using hx
     rw[List.lookup_cons,hb]at e
     exact hc x d e)
   refine⟨cl,?_,p1,fun x d e=>?_,fun x hx hf=>?_⟩
   ·rw[List.forIn_cons]
    show ((if (NameKind.free==NameKind.free)=true then _ else _) >>= _)=_
    rw[if_pos (show (NameKind.free==NameKind.free)=true from rfl)]
    show ((cellOf env n >>= fun a=>pure (ForInStep.yield ((n,a)::cs))) >>= _)=_
    rw[e0]
    exact e
   ·by_cases hx:x=n
    ·subst hx
     exact p2 x c (by simp)
    ·have hb:(x==n)=false:=by simpa using hx
     exact p2 x d (by rw[List.lookup_cons,hb];exact e)
   ·rcases List.mem_cons.mp hx with rfl|hx
    ·exact p2 n c (by simp)
    ·exact p3 x hx hf
  ·have hb:(k==NameKind.free)=false:=by simpa using hk
   obtain⟨cl,e,p1,p2,p3⟩:=closLoop (env:=env) r cs (fun x hx=>h x (List.mem_cons_of_mem _ hx)) hc
   refine⟨cl,?_,p1,p2,fun x hx hf=>?_⟩
   ·rw[List.forIn_cons]
    show ((if (k==NameKind.free)=true then _ else _) >>= _)=_
    rw[if_neg (by rw[hb];exact Bool.false_ne_true)]
    exact e
   ·rcases List.mem_cons.mp hx with rfl|hx
    ·exact absurd hf hk
    ·exact p3 x hx hf
theorem closureFor_of{scope:Scope}{env:Env}(h:∀x∈scope.names,x.2=.free->∃c,env.cells.lookup x.1=some c) :
  ∃cl,closureFor scope env=pure cl/\(∀x c,cl.lookup x=some c->env.cells.lookup x=some c)/\∀x∈scope.names,x.2=.free->∃c,cl.lookup x.1=some c:=by
 obtain⟨cl,e,p1,_,p3⟩:=closLoop (env:=env) scope.names [] h (fun x c e=>by simp at e)
 refine⟨cl,?_,p1,p3⟩
 unfold closureFor
 have:(forIn scope.names ([]:List (Str×Addr)) fun x cs=>(match x with|(name,kind)=>(if (kind==NameKind.free)=true then do let a ← cellOf env name;pure (ForInStep.yield ((name,a)::cs)) else pure (ForInStep.yield cs):Sem (ForInStep (List (Str×Addr))))))=(pure cl:Sem (List (Str×Addr))):=e
 first
  | (rw[this];rfl)
  | (show (forIn scope.names ([]:List (Str×Addr)) _ >>= fun cs=>pure cs)=_;rw[this];rfl)
def compCx(X:Cx)(N:List Str)(scope:Scope)(cl:List (Str×Addr))(C:Addr)(s3:Shared)(H2:Hp)(ex:List Addr):Cx where
 prog:=X.prog
 w:=X.w
 K:=X.K
 mg:=X.mg
 base:=X.base
 A:=X.A
 N:=N
 s₀:=s3
 H₀:=H2
 env:=compEnvC scope cl C X.env
 outer:=X.stack
 stack:=X.stack
 ex:=ex
 fn:=fun _=>false
 calm:=true
 pn:=[]
 xe:=fun _ _=>False
section
variable {prog:Program} {w:World} {A:Around} {E:Value->Shared->Prop} {R:Result->Shared->Prop} {s:Shared}
theorem codeAny_compLoop_any{elt target iter:Expr}{ifs:List Expr}{scope:Scope}{pos:Pos}{it acc:Value}{env:Env}(I:Nat->Shared->Prop)
  (turn:∀n s,I n s->wpAny (model prog w) A (pyNext it) (fun r s₁=>match r with
   | none=>R (.ok .next) s₁
   | some v=>wpAny (model prog w) A (letOwnedTupleGo target it v) (fun _ s₁'=>wpAny (model prog w) A (assign target env v) (fun _ s₂ =>
     wpAny (model prog w) A (forIn ifs true fun c r=>if r=true then do let ok ← isTrue c env (eval c env);pure (ForInStep.yield ok) else pure (ForInStep.yield r)) (fun ok s₃ =>
      if ok=true then wpAny (model prog w) A (eval elt env) (fun x s₄ =>
       wpAny (model prog w) A (call (.builtin "list.append") [acc,x]) (fun _ s₅=>∃m,m < n/\I m s₅) (fun _ _=>False) s₄) (fun _ _=>False) s₃
      else ∃m,m < n/\I m s₃) (fun _ _=>False) s₂) (fun _ _=>False) s₁') (fun _ _=>False) s₁) (fun _ _=>False) s)
  (n:Nat) (h:I n s) :
  codeAny (model prog w) A (.compLoop (.ListComp elt [⟨target,iter,ifs,0⟩] scope pos) 0 it acc env) R s:=by
 refine codeAny_loop rfl I (fun n s hI=>?_) n h
 show wpAny _ A ((compTurn (.ListComp elt [⟨target,iter,ifs,0⟩] scope pos) 0 it acc env).onRaise (fun x=>do noteFrame x env;theTreesLotGoes x)) _ _ s
 refine wpAny_noted ?_
 rw[compTurn_list]
 refine wpAny_bind (wpAny_standAt (wpAny_bind (wpAny_mono (turn n s hI) (fun r s₁ h₁=>?_) fun _ _ h'=>h'.elim)))
 cases r with
 | none=>exact wpAny_pure h₁
 | some v =>
  refine wpAny_bind (wpAny_mono h₁ (fun _ s₁' h₁'=>?_) fun _ _ h'=>h'.elim)
  refine wpAny_bind (wpAny_mono h₁' (fun _ s₂ h₂=>wpAny_bind (wpAny_mono h₂ (fun ok s₃ h₃=>?_) fun _ _ h'=>h'.elim)) fun _ _ h'=>h'.elim)
  cases ok with
  | false=>exact wpAny_pure ⟨rfl,h₃⟩
  | true =>
   exact wpAny_bind (wpAny_bind (wpAny_mono h₃ (fun x s₄ h₄=>wpAny_bind (wpAny_mono h₄ (fun _ s₅ h₅=>wpAny_pure (wpAny_pure ⟨rfl,h₅⟩)) fun _ _ h'=>h'.elim)) fun _ _ h'=>h'.elim))
end
def hide:Slot->Slot
 | .own ts=>.see ts
 | .see _=>.no
 | .vat t _=>.val t
 | .owd _ _=>.no
 | s=>s
def compT(g:TGt)(ut:WT)(we:WE):List T->List T->List Slot->(List T->Prop)->Prop
 | [],acc,_,Q=>Q acc
 | x::xs,acc,τ,Q=>g x τ fun τ1=>ut τ1 fun k=>(k=true->we τ1 fun t=>compT g ut we xs (acc++[t]) τ1 Q)/\(k=false->compT g ut we xs acc τ1 Q)
def wComp(wi:WI)(g:TGt)(ut:WT)(we:WE)(n:Nat)(fr:List Nat):WE:=fun τ Q=>wi τ fun ts=>ts.length<=1000/\compT g ut we ts [] (List.replicate n Slot.no++fr.map fun i=>hide (sget τ i)) fun rs=>Q (.lst rs)
def JTs(X:Cx)(ifs:List Expr)(u:WT):Prop :=
 ∀(pins:List (Addr×Obj))(s:Shared)(σ:St)(H:Hp)(Q:Bool->Hp->Prop),Inv X pins σ H s->upT X.K X.H₀ u σ H Q →
  wpAny (model X.prog X.w) X.A (forIn ifs true fun c r=>if r=true then do let ok ← isTrue c X.env (eval c X.env);pure (ForInStep.yield ok) else pure (ForInStep.yield r)) (TP X pins σ Q) X.xe s
def tTrue:WT:=fun _ Q=>Q true
theorem jts0{X:Cx}:JTs X [] tTrue:=fun pins s σ H Q I ⟨τ,Q0,R,hw,k⟩=>wpAny_tests_nil ⟨H,I,k _ H (.refl H) hw⟩
theorem jts1{X:Cx}{c:Expr}{u:WT}(h:JT X c u):JTs X [c] u:=fun pins s σ H Q I hw=>wpAny_tests_one (h pins s σ H Q I hw)
theorem relabel_mem{scope:Scope}{env:Env}{x:Str}{k':NameKind}(h:(relabel scope env).names.lookup x=some k'):∃k,(x,k)∈scope.names/\(k'=k∨(k=.free/\k'=.cell)):=by
 have hm:=PySem.mem_of_lookup h
 obtain⟨⟨n,k⟩,hn,e⟩:=List.mem_map.mp hm
 by_cases hc:(k==NameKind.free&&env.scope.kind == .function&&env.kindOf n==some .cell)=true
 ·have e':(n,NameKind.cell)=(x,k'):=by simpa [hc] using e
  cases e'
  have hfree:=(Bool.and_eq_true_iff.mp (Bool.and_eq_true_iff.mp hc).1).1
  exact⟨_,hn,.inr ⟨by simpa using hfree,rfl⟩⟩
 ·have e':(n,k)=(x,k'):=by simpa [hc] using e
  cases e'
  exact⟨_,hn,.inl rfl⟩
theorem relabel_free{env:Env}(hk:env.scope.kind=.function):∀{names:List (Str×NameKind)}{x:Str},names.lookup x=some .free->env.kindOf x=some .cell →
  (names.map fun (n,k)=>if (k==NameKind.free&&env.scope.kind == .function&&env.kindOf n==some .cell) then (n,NameKind.cell) else (n,k)).lookup x=some .cell
 | [],_,h,_=>by simp at h
 | (n,k)::r,x,h,hx=>by
  have ih:=@relabel_free env hk r x
  show List.lookup x ((if (k==NameKind.free&&env.scope.kind == .function&&env.kindOf n==some .cell)=true then (n,NameKind.cell) else (n,k))::_)=_
  cases hb:x==n with
  | true =>
   have e:x=n:=by simpa using hb
   subst e
   simp only[List.lookup_cons,hb]at h
   cases h
   rw[if_pos (by rw[hk,hx];rfl)]
   simp[List.lookup_cons]
  | false =>
   simp only[List.lookup_cons,hb]at h
   by_cases hc:(k==NameKind.free&&env.scope.kind == .function&&env.kindOf n==some .cell)=true
   ·rw[if_pos hc];simp only[List.lookup_cons,hb];exact ih h hx
   ·rw[if_neg hc];simp only[List.lookup_cons,hb];exact ih h hx
section
variable {X:Cx} {pos:Pos}
theorem comp_start{pins:List (Addr×Obj)}{σ:St}{H:Hp}{s:Shared}{scope:Scope}{cl:List (Str×Addr)}{C:Addr}{N:List Str}{σ':St}{s4:Shared}{ex:List Addr}
  (I:Inv X pins σ H s) (hc:X.calm=true) (hk:scope.kind=.function) (hC:s.heap.objs.size<=C)
  (hcl:∀x c,cl.lookup x=some c->X.env.cells.lookup x=some c)
  (hhas:∀x,((relabel scope X.env).names.lookup x=some .cell∨(relabel scope X.env).names.lookup x=some .free)->∃c,cl.lookup x=some c)
  (hex:∀b∈ex,FpOk X pins H b) (hlt:∀b∈ex,b < s.heap.objs.size)
  (hos:s4.os=s.os) (hbare:AllBare s4.gens) (hkeep:∀b o,s.heap.get? b=some o->s4.heap.get? b=some o) {m:Str->Option Value} (hns:s4.heap.Ns C m)
  (hloc:∀(i:Nat)(x:Str)(v:V),N[i]?=some x->σ'[i]?=some (some v)->∃u,RelV v u/\Look (compEnvC scope cl C X.env) s4.heap m x u) (hlen:σ'.length=N.length) :
  Inv (compCx X N scope cl C s H ex) [] σ' H s4:=by
 have bs:=I.bs
 refine⟨⟨I.ok.mod,hk,I.ok.glob,I.ok.blt,hC,fun x y c h1 h2=>I.ok.inj x y c (hcl _ _ h1) (hcl _ _ h2),hhas,fun _ _ z=>(by cases z),fun _=>I.ok.hd hc,I.ok.frames,.inl rfl,
   fun b hb=>⟨Nat.ne_of_lt (Nat.lt_of_lt_of_le (hlt b hb) hC),fun x c e=>(hex b hb).2.2.2.2.1 x c (hcl _ _ e)⟩,bs,Nat.le_trans I.ok.bsz I.sz,fun b o e hb=>?_,fun b hb=>?_,I.stack,I.stkFree⟩,
  hos,hbare,Un.kept hkeep,⟨m,hns,fun i x v h1 h2 _=>hloc i x v h1 h2⟩,fun x c e=>?_,I.hok.fresh hC,fun x c e=>I.freeC x c (hcl _ _ e),fun p hp=>absurd (show p∈([]:List (Addr×Obj)) from hp) (by simp),I.hok.kept hkeep,hlen⟩
 ·rcases (hex b hb).2.2.2.1 with z|z
  ·exact I.ok.noex b o e z
  ·exact absurd (Nat.lt_of_lt_of_le (Heap.lt_size e) (Nat.le_trans I.ok.bsz z)) (Nat.lt_irrefl _)
 ·intro z
  obtain⟨_,f1,f2,_⟩:=hex b hb
  rcases List.mem_cons.mp (I.stkSub b z) with e|e
  ·exact f1 e
  ·exact f2 e
 ·obtain⟨v,o,ho,hd⟩:=I.cell x c (hcl _ _ e)
  exact⟨v,o,hkeep c o ho,hd⟩
def slotsOf(σ:St)(n:Nat)(fr:List (Str×Nat)):St:=List.replicate n none++fr.map fun p=>(σ[p.2]?).getD none
theorem repSt_comp{K:PySem.W.Frag}{H0 H H2:Hp}{σ:St}{τ:List Slot}(n:Nat)(fr:List (Str×Nat))(R:RepSt K H0 H σ τ)(S:Same H H2) :
  RepSt K H2 H2 (slotsOf σ n fr) (List.replicate n Slot.no++(fr.map (·.2)).map fun i=>hide (sget τ i)):=by
 have key:∀i,sget (List.replicate n Slot.no++(fr.map (·.2)).map fun i=>hide (sget τ i)) i=.no∨∃p,fr[i - n]?=some p/\n<=i/\sget (List.replicate n Slot.no++(fr.map (·.2)).map fun i=>hide (sget τ i)) i=hide (sget τ p.2):=fun i=>by
  by_cases hi:i < n
  ·left
   rw[sget_append_left (by simpa using hi),sget_no]
  ·rw[sget_append_right (by simpa using hi),List.length_replicate]
   have gen:∀(l:List (Str×Nat))(j:Nat),sget ((l.map (·.2)).map fun i=>hide (sget τ i)) j=.no∨∃p,l[j]?=some p/\sget ((l.map (·.2)).map fun i=>hide (sget τ i)) j=hide (sget τ p.2):=by
    intro l
    induction l with
    | nil=>intro j;left;rfl
    | cons p r ih =>
     intro j
     cases j with
     | zero=>exact .inr ⟨p,rfl,rfl⟩
     | succ j=>exact ih j
   rcases gen fr (i - n) with z|⟨p,e1,e2⟩
   ·exact .inl z
   ·exact .inr ⟨p,e1,by omega,e2⟩
 have noOwn:∀s ts,hide s ≠ .own ts:=fun s ts=>by cases s<;>simp[hide]
 refine⟨.refl H2,by simp[slotsOf],fun i=>?_,fun i j ts us p _ h1 _ _ _=>?_⟩
 ·rcases key i with z|⟨p,e1,hi,e2⟩
  ·rw[z];trivial
  ·rw[e2]
   have ge:(slotsOf σ n fr)[i]?=some ((σ[p.2]?).getD none):=by
    unfold slotsOf
    rw[List.getElem?_append_right (by simpa using hi),List.length_replicate,List.getElem?_map,e1]
    rfl
   have sl:=R.slot p.2
   cases e:sget τ p.2 with
   | no=>trivial
   | see ts=>trivial
   | owd _ _=>trivial
   | vat t v =>
    rw[e]at sl
    exact⟨v,by rw[ge,sl.1];rfl,sl.2.kp (.of S)⟩
   | dic ps =>
    rw[e]at sl
    obtain⟨q,o,kvs,ev,h1,ek,r⟩:=sl
    exact⟨q,o,kvs,by rw[ge,ev];rfl,S _ _ h1,ek,r.kp (.of S)⟩
   | own ts =>
    rw[e]at sl
    obtain⟨q,vs,ev,h1,r,_⟩:=sl
    exact⟨q,vs,by rw[ge,ev];rfl,S _ _ h1,r.kp (.of S),by rw[S _ _ h1];exact fun z=>by cases z⟩
   | val t =>
    rw[e]at sl
    obtain⟨v,ev,r⟩:=sl
    exact⟨v,by rw[ge,ev];rfl,r.kp (.of S)⟩
 ·rcases key i with z|⟨p,_,_,e2⟩
  ·rw[z]at h1;cases h1
  ·rw[e2]at h1;exact noOwn _ _ h1
theorem comp_end{X X':Cx}{pins pins':List (Addr×Obj)}{σ σ5:St}{H2 H5:Hp}{s2 s6:Shared}{fp:List Addr}{Da:Addr}{h3:Heap}{vs:List V}{its:List Value}{k5:Nat}(eP:X'.prog=X.prog)(eW:X'.w=X.w)(eFs:X'.fs=frs X.stack)(eEx:X'.ex=Da::fp)(eH:X'.H₀=H2)
  (eS:X'.s₀.heap=h3) (eOs:X'.s₀.os=s2.os) (hCn:X'.env.locals=Da + 1) (pushK:∀b o,s2.heap.get? b=some o->h3.get? b=some o) (hDa:s2.heap.objs.size=Da) (I2:Inv X pins σ H2 s2) (f2:∀b∈fp,FpOk X pins H2 b) (I6:Inv X' pins' σ5 H5 s6)
  (frD:H5 Da=none) (hD:s6.heap.get? Da=some {cls:=.type "list", dict:=none,data:=.seq its.toArray k5}) (rv:Vals vs its) (hz:vs.length<=sizeLine) :
  Inv X pins σ (upd H5 Da (.frz {cls:=.type "list", dict:=none,data:=.seq its.toArray k5} (.lst vs))) s6:=by
 have un:=I6.base
 rw[eFs,eEx,eH,eS]at un
 have old:∀b o,s2.heap.get? b=some o->b≠Da:=fun b o e=>by
  have lt:=Heap.lt_size e
  rw[hDa]at lt
  exact Nat.ne_of_lt lt
 have hnD:∀b,H5 b≠none->b≠Da:=fun b h z=>h (by rw[z];exact frD)
 have ex:∀b o,s2.heap.get? b=some o->b∉fp->b∉Da::fp:=fun b o e hb z=>by
  rcases List.mem_cons.mp z with z|z
  ·exact old b o e z
  ·exact hb z
 refine I2.call' (s':=s6) (ch:=fp) (by rw[I6.os,eOs]) ⟨fun b o e n hf hx=>?_,fun b o e n hf hx=>?_,fun b o e n hx=>?_,fun b o e hx=>?_,fun b xs e=>?_,fun b o u e=>?_,fun b ps e=>?_⟩ (fun b ob eb=>?_) I6.bare fun b hb=>?_
 ·exact un.keep b o (pushK b o e) n hf (ex b o e hx)
 ·exact un.slot b o (pushK b o e) n hf (ex b o e hx)
 ·rw[upd_ne (old b o e)]
  exact un.free b o (pushK b o e) n (ex b o e hx)
 ·exact un.there b o (pushK b o e) (ex b o e hx)
 ·have e1:=un.tups b xs e
  rw[upd_ne (hnD b (by rw[e1];simp))]
  exact e1
 ·have e1:=un.frzs b o u e
  rw[upd_ne (hnD b (by rw[e1];simp))]
  exact e1
 ·obtain⟨more,e1⟩:=un.tbls b ps e
  exact⟨more,by rw[upd_ne (hnD b (by rw[e1];simp))];exact e1⟩
 ·by_cases hb:b=Da
  ·subst hb
   rw[upd_same]at eb
   cases eb
   exact⟨hD,hz,its,k5,rv,hD⟩
  ·rw[upd_ne hb]at eb
   have o5:=I6.hok b ob eb
   rw[eP,eW]at o5
   exact o5.stay (fun c v hc q=>q) (fun c q=>by rw[upd_ne (hnD c (by rw[q];simp))];exact q) fun c ys q=>by rw[upd_ne (hnD c (by rw[q];simp))];exact q
 ·obtain⟨g1,g2,g3,g4,g5,g6⟩:=f2 b hb
  exact⟨g4,g2,g5,g6⟩
def WkS(K:PySem.W.Frag)(J:It)(ts:List T)(H1:Hp):Prop:=∀H2,Same H1 H2->(∀i t,ts[i]?=some t->J.go i H2/\∀x H3,J.yld i H2 x H3->Same H2 H3/\Rep K H3 t x)/\J.stop ts.length H2
theorem Wk.s{K:PySem.W.Frag}{J:It}{ts:List T}{H:Hp}(h:Wk K J ts H):WkS K J ts H:=fun H2 S=>h H2 (.of S)
def upIc(K:PySem.W.Frag)(H0:Hp)(w:WI):TI:=fun σ H R=>∃(τ:List Slot) (Q0:List T->Prop),RepSt K H0 H σ τ/\w τ Q0/\∀ts J H',Same H H'->WkS K J ts H'->Q0 ts->R J H'
def JIc(X:Cx)(tg iter:Expr)(w:WI):Prop:=PI X tg iter (upIc X.K X.H₀ w)
theorem JI.c{X:Cx}{tg iter:Expr}{w:WI}(h:JI X tg iter w):JIc X tg iter w:=pi_of h fun σ H R ⟨τ,Q0,R0,hw,k⟩=>⟨τ,Q0,R0,hw,fun ts J H' S wk q=>k ts J H' S wk.s q⟩
inductive CompInv (K:PySem.W.Frag) (X':Cx) (ts:List T) (g:TGt) (ut:WT) (we:WE) (Q0:T->Prop) (tn':Nat->Heap->Prop) (Da:Addr) (fp:List Addr) (n:Nat) (s':Shared):Prop
 | mk (i:Nat) (σ':St) (H':Hp) (τ':List Slot) (acc:List T) (vs:List V) (its:List Value) (k:Nat) (e:n=ts.length - i) (hi:i<=ts.length) (I:Inv X' [] σ' H' s') (st:tn' i s'.heap) (fr:∀b∈Da::fp,H' b=none)
  (R:RepSt X'.K X'.H₀ H' σ' τ') (hD:s'.heap.get? Da=some {cls:=.type "list", dict:=none,data:=.seq (List.toArray its) k}) (rv:Vals vs its) (ra:Reps K H' acc vs) (hl:acc.length<=i) (q:compT g ut we (ts.drop i) acc τ' fun rs=>Q0 (.lst rs)) :
  CompInv K X' ts g ut we Q0 tn' Da fp n s'
theorem comp_loop{X X':Cx}{elt target iter:Expr}{ifs:List Expr}{scope:Scope}{pos:Pos}{g:TGt}{ut:WT}{we:WE}{use:Option (Value->Sem Unit)}{QQ:Value->Shared->Prop}{pins:List (Addr×Obj)}{σ σ4:St}{H H2:Hp}{s2 s4:Shared}{h3:Heap}{it Da:Addr}{fp:List Addr}{tn':Nat->Heap->Prop}{J:It}{ts:List T}{Q0:T->Prop}{τ4:List Slot}
  (hg':JG X' target g) (hu':JTs X' ifs ut) (he':JE X' elt we) (eP:X'.prog=X.prog) (eW:X'.w=X.w) (eK:X'.K=X.K) (eA:X'.A=X.A) (eH:X'.H₀=H2) (eE:X'.xe=fun _ _=>False) (eC:X'.calm=true) (eFs:X'.fs=frs X.stack) (eEx:X'.ex=Da::fp) (eS:X'.s₀.heap=h3) (eOs:X'.s₀.os=s2.os) (ePn:X'.pn=[])
  (hCn:X'.env.locals=Da + 1) (pushK:∀b o,s2.heap.get? b=some o->h3.get? b=some o) (hDa:s2.heap.objs.size=Da) (I2:Inv X pins σ H2 s2) (f2:∀b∈fp,FpOk X pins H2 b) (Tn:Turn X.prog X.w X.K target J fp it tn') (ne:Da∉fp) (S2:Same H H2) (wk:WkS X.K J ts H2) (hlen:ts.length<=1000)
  (J4:Inv X' [] σ4 H2 s4) (R4:RepSt X'.K X'.H₀ H2 σ4 τ4) (st4:tn' 0 s4.heap) (fr4:∀b∈Da::fp,H2 b=none) (hDat:s4.heap.get? Da=some {cls:=.type "list", dict:=none,data:=.seq ([]:List Value).toArray}) (q:compT g ut we ts [] τ4 fun rs=>Q0 (.lst rs))
  (hfp:∀H6:Hp,H6 X'.env.locals=none->FpOk X pins H6 X'.env.locals)
  (hend:∀(s6:Shared)(H6:Hp)(D C:Addr)(m6:Str->Option Value)(t:T)(f:Flow),Inv X pins σ H6 s6->FpOk X pins H6 C->s6.heap.Ns C m6->Same H H6->Rep X.K H6 t (.ref D)->Q0 t->(∃(H5:Hp) (o:Obj) (vs:List V) (ts:List T),H6=upd H5 D (.frz o (.lst vs))/\H5 D=none/\Same H H5/\t=.lst ts/\Reps X.K H5 ts vs)->compPost (model X.prog X.w) X.A X.xe use QQ (.ref D) C (.ok f) s6) :
  codeAny (model X.prog X.w) X.A (.compLoop (.ListComp elt [⟨target,iter,ifs,0⟩] scope pos) 0 (.ref it) (.ref Da) X'.env) (compPost (model X.prog X.w) X.A X.xe use QQ (.ref Da) X'.env.locals) s4:=by
 have stat:∀{H':Hp}{b:Addr},b∈Da::fp->H' b=none->FpOk X' [] H' b:=fun {H' b} hb hn=>by
  have o:=(J4.ok.exf b (by rw[eEx];exact hb))
  refine⟨hn,o.1,J4.ok.exfs b (by rw[eEx];exact hb),.inl (by rw[eEx];exact hb),o.2,fun p hp=>?_⟩
  rw[ePn]at hp
  exact absurd (show p∈([]:List (Addr×Obj)) from hp) (by simp)
 refine codeAny_compLoop_any (CompInv X.K X' ts g ut we Q0 tn' Da fp) ?_ ts.length
  ⟨0,_,H2,_,[],[],[],0,by simp,Nat.zero_le _,J4,st4,fr4,R4,hDat,.nil,reps_nil.mpr rfl,Nat.le_refl _,by simpa using q⟩
 rintro n s5 ⟨i,σ5,H5,τ5,acc,vs,its,k5,rfl,hi5,I5,st5,fr5,R5,hD5,rv5,ra5,hl5,q5⟩
 have K5:Same H2 H5:=by
  have:=R5.same
  rwa [eH]at this
 obtain⟨wi5,ws5⟩:=wk H5 K5
 have fp5:∀b∈fp,FpOk X' [] H5 b:=fun b hb=>stat (List.mem_cons_of_mem _ hb) (fr5 b (List.mem_cons_of_mem _ hb))
 rw[← eA]
 by_cases hlt:i < ts.length
 ·have ei:ts[i]?=some ts[i]:=List.getElem?_eq_getElem hlt
  obtain⟨go,yl⟩:=wi5 i _ ei
  rw[List.drop_eq_getElem_cons hlt]at q5
  have ID:Inv X' ([]++pinsAt [Da] s5.heap) σ5 H5 s5:=I5.pinned (fp:=[Da]) (fun b hb=>stat (by rw[List.mem_singleton.mp hb];exact List.mem_cons_self) (fr5 b (by rw[List.mem_singleton.mp hb];exact List.mem_cons_self))) fun b hb=>by
   rw[List.mem_singleton.mp hb]
   exact⟨_,hD5,fun v z=>(by cases z)⟩
  have fpp:∀{H':Hp},(∀b∈fp,H' b=none)->∀b∈fp,FpOk X' ([]++pinsAt [Da] s5.heap) H' b:=fun hn b hb=>by
   obtain⟨g1,g2,g3,g4,g5,g6⟩:=stat (H':=_) (List.mem_cons_of_mem _ hb) (hn b hb)
   refine⟨g1,g2,g3,g4,g5,fun p hp=>?_⟩
   rcases List.mem_append.mp hp with z|z
   ·rw[ePn]at z;exact absurd (show p∈([]:List (Addr×Obj)) from z) (by simp)
   ·rw[List.nil_append]at z
    obtain⟨z1,_⟩:=of_pinsAt z
    rw[List.mem_singleton.mp z1]
    intro e
    exact ne (by rw[e];exact hb)
  have frf:∀b∈fp,H5 b=none:=fun b hb=>fr5 b (List.mem_cons_of_mem _ hb)
  refine wpAny_mono (Tn.item X' eP eW eK eC i _ s5 σ5 H5 (fun _ _=>False) ID (fpp frf) st5 go) (fun r s6 h6=>?_) fun _ _ z=>z
  obtain⟨u,rfl,h6⟩:=h6
  refine wpAny_mono h6 (fun _ s7 h7=>?_) fun _ _ z=>z
  obtain⟨x,H7,I7,rx,y7,st7,fr7⟩:=h7
  obtain⟨S7,r7⟩:=yl x H7 y7
  have I7p:=I7.pinned (fpp fr7) (Tn.obj _ _ st7)
  have R7:=R5.mono S7
  have g7:=hg' _ s7 σ5 H7 x u (fun σ8 H8=>∃τ8,Same H7 H8/\RepSt X'.K X'.H₀ H8 σ8 τ8/\ut τ8 fun k=>(k=true->we τ8 fun t=>compT g ut we (ts.drop (i + 1)) (acc++[t]) τ8 fun rs=>Q0 (.lst rs))/\(k=false->compT g ut we (ts.drop (i + 1)) acc τ8 fun rs=>Q0 (.lst rs))) I7p rx
   ⟨ts[i],τ5,_,R7,(by rw[eK];exact r7),q5,fun τ8 σ8 H8 S8 R8 q8=>⟨τ8,S8,R8,q8⟩⟩
  rw[eE,eP,eW]at g7
  refine wpAny_mono g7 (fun _ s8 h8=>?_) fun _ _ z=>z
  obtain⟨σ8,H8,I8,τ8,S8,R8,q8⟩:=h8
  have u8:=hu' _ s8 σ8 H8 (fun k H9=>Same H8 H9/\((k=true->we τ8 fun t=>compT g ut we (ts.drop (i + 1)) (acc++[t]) τ8 fun rs=>Q0 (.lst rs))/\(k=false->compT g ut we (ts.drop (i + 1)) acc τ8 fun rs=>Q0 (.lst rs)))) I8 ⟨τ8,_,R8,q8,fun k H9 S9 q9=>⟨S9,q9⟩⟩
  rw[eE,eP,eW]at u8
  refine wpAny_mono u8 (fun k s9 h9=>?_) fun _ _ z=>z
  obtain⟨H9,I9,S9,q9⟩:=h9
  have R9:=R8.mono S9
  have pinD:∀{s':Shared}{σ':St}{H':Hp},Inv X' (([]++pinsAt [Da] s5.heap)++pinsAt fp s7.heap) σ' H' s'->s'.heap.get? Da=some {cls:=.type "list", dict:=none,data:=.seq its.toArray k5}/\H' Da=none:=fun I'=>by
   have z:=I'.pin (Da,_) (List.mem_append_right _ (List.mem_append_left _ (by rw[List.nil_append];exact mem_pinsAt (List.mem_singleton.mpr rfl) hD5)))
   exact⟨z.1,z.2.1⟩
  have pinF:∀{s':Shared}{σ':St}{H':Hp},Inv X' (([]++pinsAt [Da] s5.heap)++pinsAt fp s7.heap) σ' H' s'->tn' (i + 1) s'.heap/\∀b∈fp,H' b=none:=fun {s' σ' H'} I'=>by
   refine⟨Tn.keep _ _ _ st7 fun b hb o e=>(I'.pin (b,o) (List.mem_append_right _ (List.mem_append_right _ (mem_pinsAt hb e)))).1,fun b hb=>?_⟩
   obtain⟨o,e,d⟩:=Tn.obj _ _ st7 b hb
   exact(I'.pin (b,o) (List.mem_append_right _ (List.mem_append_right _ (mem_pinsAt hb e)))).2.1
  have frD:∀{H':Hp},H' Da=none->(∀b∈fp,H' b=none)->∀b∈Da::fp,H' b=none:=fun h1 h2 b hb=>by
   rcases List.mem_cons.mp hb with rfl|hb
   ·exact h1
   ·exact h2 b hb
  have unp:∀{s':Shared}{σ':St}{H':Hp},Inv X' (([]++pinsAt [Da] s5.heap)++pinsAt fp s7.heap) σ' H' s'->Inv X' [] σ' H' s':=fun I'=>I'.pins_of fun p hp=>absurd hp (by simp)
  cases k with
  | false =>
   rw[if_neg Bool.false_ne_true]
   refine⟨ts.length - (i + 1),by omega,i + 1,σ8,H9,τ8,acc,vs,its,k5,rfl,hlt,unp I9,(pinF I9).1,frD (pinD I9).2 (pinF I9).2,R9,(pinD I9).1,rv5,ra5.kp (.of (S7.trans (S8.trans S9))),by omega,q9.2 rfl⟩
  | true =>
   rw[if_pos rfl]
   have e9:=he' _ s9 σ8 H9 (fun v H10=>∃t,Same H9 H10/\Rep X'.K H10 t v/\compT g ut we (ts.drop (i + 1)) (acc++[t]) τ8 fun rs=>Q0 (.lst rs)) I9 ⟨τ8,_,R9,q9.1 rfl,fun t v H10 S10 r10 q10=>⟨t,S10,r10,q10⟩⟩
   rw[eE,eP,eW]at e9
   refine wpAny_mono e9 (fun y s10 h10=>?_) fun _ _ z=>z
   obtain⟨v,H10,I10,rv,t,S10,r10,q10⟩:=h10
   have hlen5:its.length<=1000:=by
    have e1:=rv5.length
    have e2:=ra5.length
    omega
   refine wpAny_list_append_plain (hsz:=by rw[List.size_toArray];exact few hlen5) ⟨k5,(pinD I10).1⟩ fun h11 hl11 hs11=>?_
   obtain⟨k11,hl11⟩:=hl11
   have I11:Inv X' [] σ8 H10 {s10 with heap:=h11}:=by
    obtain⟨g1,g2,g3,g4,g5,g6⟩:=stat (H':=H10) List.mem_cons_self (pinD I10).2
    exact(unp I10).turned (t':=s10.toks) (it:=Da) (fun b o hb e=>(hs11.2 b hb).trans e) g1 g2 g4 g5 g6
   have st11:tn' (i + 1) h11:=Tn.keep _ _ _ (pinF I10).1 fun b hb o e=>(hs11.2 b (fun z=>ne (by rw[← z];exact hb))).trans e
   refine⟨ts.length - (i + 1),by omega,i + 1,σ8,H10,τ8,acc++[t],vs++[v],its++[y],k11,rfl,hlt,I11,st11,frD (pinD I10).2 (pinF I10).2,R9.mono S10,?_,rv5.append (.cons rv .nil),(ra5.kp (.of (S7.trans (S8.trans (S9.trans S10))))).append (.one (by rw[← eK];exact r10)),by simp;omega,q10⟩
   have ea:(its++[y]).toArray=its.toArray.push y:=by simp
   rw[ea]
   exact hl11
 ·have e:i=ts.length:=by omega
  subst e
  rw[List.drop_length]at q5
  have q5':Q0 (.lst acc):=q5
  refine wpAny_mono (Tn.done X' eP eW eK eC ts.length ([]++pinsAt [Da] s5.heap) s5 σ5 H5 (fun _ _=>False) ?_ ?_ st5 ws5) (fun r s6 h6=>?_) fun _ _ z=>z
  ·exact I5.pinned (fp:=[Da]) (fun b hb=>stat (by rw[List.mem_singleton.mp hb];exact List.mem_cons_self) (fr5 b (by rw[List.mem_singleton.mp hb];exact List.mem_cons_self))) fun b hb=>by
    rw[List.mem_singleton.mp hb]
    exact⟨_,hD5,fun v z=>(by cases z)⟩
  ·intro b hb
   obtain⟨g1,g2,g3,g4,g5,g6⟩:=stat (H':=H5) (List.mem_cons_of_mem _ hb) (fr5 b (List.mem_cons_of_mem _ hb))
   refine⟨g1,g2,g3,g4,g5,fun p hp=>?_⟩
   rcases List.mem_append.mp hp with z|z
   ·rw[ePn]at z;exact absurd (show p∈([]:List (Addr×Obj)) from z) (by simp)
   ·rw[List.nil_append]at z
    obtain⟨z1,_⟩:=of_pinsAt z
    rw[List.mem_singleton.mp z1]
    intro e
    exact ne (by rw[e];exact hb)
  obtain⟨rfl,I6⟩:=h6
  have z6:=I6.pin (Da,_) (List.mem_append_right _ (by rw[List.nil_append];exact mem_pinsAt (List.mem_singleton.mpr rfl) hD5))
  obtain⟨m6,hn6,_⟩:=I6.loc
  have hz:vs.length<=sizeLine:=by rw[ra5.length];exact few (by omega)
  have fin:=comp_end eP eW eFs eEx eH eS eOs hCn pushK hDa I2 f2 I6 (fr5 _ List.mem_cons_self) z6.1 rv5 hz
  have S5:Same H2 H5:=by have:=R5.same;rwa [eH]at this
  have S6:Same H2 (upd H5 Da (.frz {cls:=.type "list", dict:=none,data:=.seq its.toArray k5} (.lst vs))):=S5.trans (same_new (fr5 _ List.mem_cons_self) _)
  have hfpC:=hfp _ (show (upd H5 Da (.frz {cls:=.type "list", dict:=none,data:=.seq its.toArray k5} (.lst vs))) X'.env.locals=none by rw[upd_ne (by rw[hCn];exact Nat.succ_ne_self _)];exact I6.free)
  show compPost (model X.prog X.w) X'.A X.xe use QQ (.ref Da) X'.env.locals (.ok .next) s6
  rw[eA]
  exact hend s6 _ _ _ m6 (.lst acc) _ fin hfpC hn6 (S2.trans S6) (rep_lst.mpr ⟨_,vs,rfl,.inl ⟨_,upd_same⟩,ra5.kp (.of (same_new (fr5 _ List.mem_cons_self) _))⟩) q5' ⟨H5,_,vs,acc,rfl,fr5 _ List.mem_cons_self,S2.trans S5,rfl,ra5⟩
theorem comp_core{elt target iter:Expr}{ifs:List Expr}{scope sc0:Scope}{tn N0:List Str}{fr:List (Str×Nat)}{wi:WI}{g:TGt}{ut:WT}{we:WE}(hsc:X.env.scope=sc0)(hN0:X.N=N0)(hc:X.calm=true)
  (hi:JIc X target iter wi) (hk:scope.kind=.function) (hk0:sc0.kind=.function)
  (hnames:(scope.names.all fun x=>x.2 != .local||scope.names.lookup x.1==some .local)=true) (hcell:(scope.names.all fun x=>x.2 != .cell)=true)
  (hfree:(scope.names.all fun x=>x.2 != .free||sc0.names.lookup x.1==some .cell)=true)
  (hfr:(fr.all fun p=>(sc0.names.lookup p.1==some .cell&&scope.names.lookup p.1==some .free)&&N0[p.2]?==some p.1)=true)
  (hg:∀cl C s3 H2 ex,JG (compCx X (tn++fr.map (·.1)) scope cl C s3 H2 ex) target g) (hu:∀cl C s3 H2 ex,JTs (compCx X (tn++fr.map (·.1)) scope cl C s3 H2 ex) ifs ut)
  (he:∀cl C s3 H2 ex,JE (compCx X (tn++fr.map (·.1)) scope cl C s3 H2 ex) elt we)
  (hs:∀x,foldedSetIterable iter X.env x=pure x) {pos':Pos} {pins:List (Addr×Obj)} {s:Shared} {σ:St} {H:Hp} {QQ:Value->Shared->Prop} {use:Option (Value->Sem Unit)} (I:Inv X pins σ H s)
  {τ:List Slot} {Q0:T->Prop} (R0:RepSt X.K X.H₀ H σ τ) (hw:wComp wi g ut we tn.length (fr.map (·.2)) τ Q0)
  (hend:∀(s6:Shared)(H6:Hp)(D C:Addr)(m6:Str->Option Value)(t:T)(f:Flow),Inv X pins σ H6 s6->FpOk X pins H6 C->s6.heap.Ns C m6->Same H H6->Rep X.K H6 t (.ref D)->Q0 t->(∃(H5:Hp) (o:Obj) (vs:List V) (ts:List T),H6=upd H5 D (.frz o (.lst vs))/\H5 D=none/\Same H H5/\t=.lst ts/\Reps X.K H5 ts vs)->compPost (model X.prog X.w) X.A X.xe use QQ (.ref D) C (.ok f) s6) :
  wpAny (model X.prog X.w) X.A (comprehension (.ListComp elt [⟨target,iter,ifs,0⟩] scope pos) scope X.env pos' (newList []) false (eval iter X.env) use) QQ X.xe s:=by
 have hkindOf:∀x,X.env.kindOf x=sc0.names.lookup x:=fun x=>by show X.env.scope.names.lookup x=_;rw[hsc]
 have hfree':∀x∈scope.names,x.2=.free->X.env.kindOf x.1=some .cell:=fun x hx hf=>by
  have:=List.all_eq_true.mp hfree x hx
  rw[hkindOf]
  simpa [hf] using this
 have hcell':∀x∈scope.names,x.2 ≠ .cell:=fun x hx=>by
  have:=List.all_eq_true.mp hcell x hx
  simpa using this
 have hfN:∀p∈fr,X.N[p.2]?=some p.1:=fun p hp=>by
  have:=List.all_eq_true.mp hfr p hp
  rw[hN0]
  simp only[Bool.and_eq_true,beq_iff_eq]at this
  exact this.2
 have hfr':∀p∈fr,X.env.kindOf p.1=some .cell/\scope.names.lookup p.1=some .free:=fun p hp=>by
  have:=List.all_eq_true.mp hfr p hp
  rw[hkindOf]
  simp only[Bool.and_eq_true,beq_iff_eq]at this
  exact this.1
 obtain⟨cl,hclos,p1,p3⟩:=closureFor_of (scope:=scope) (env:=X.env) fun x hx hf=>I.ok.has x.1 (.inl (hfree' x hx hf))
 refine wpAny_comprehension_free (use:=use) rfl hs hclos hk (fun x hx hl=>?_) ?_
 ·have:=List.all_eq_true.mp hnames x hx
  simpa [hl] using this
 refine thn (hi pins s σ H (fun J H1=>∃ts,Same H H1/\WkS X.K J ts H1/\ts.length<=1000/\compT g ut we ts [] (List.replicate tn.length Slot.no++(fr.map (·.2)).map fun i=>hide (sget τ i)) fun rs=>Q0 (.lst rs)) I
  ⟨τ,_,R0,hw,fun ts J H' S wk q=>⟨ts,S,wk,q.1,q.2⟩⟩) fun v s1 h1=>thn h1 fun itv s2 h2=>?_
 obtain⟨it,fp,tn',J,H2,rfl,I2,Tn,st2,f2,ts,S2,wk,hlen,q⟩:=h2
 refine wpAny_newObj_type (wpAny_newFunctionEnv hcell' (by intro y hy;simp at hy) (fun h4 hns hsb=>?_) hk)
 dsimp only at hns hsb ⊢
 have hDn:H2 s2.heap.objs.size=none:=I2.hok.fresh (Nat.le_refl _)
 have I3:Inv X pins σ H2 {s2 with heap:=s2.heap.push {cls:=.type "list", dict:=none,data:=.seq ([]:List Value).toArray} }:=I2.kept (t':=s2.toks) fun b u e=>Heap.get?_push_of_some _ e
 have hsz:(s2.heap.push {cls:=.type "list", dict:=none,data:=.seq ([]:List Value).toArray}).objs.size=s2.heap.objs.size + 1:=Heap.size_push ..
 have hkeep:∀b o,(s2.heap.push {cls:=.type "list", dict:=none,data:=.seq ([]:List Value).toArray}).get? b=some o->h4.get? b=some o:=fun b o e=>hsb.extBut b o (Nat.ne_of_lt (Heap.lt_size e)) (Heap.get?_push_of_some _ e)
 have hDat:h4.get? s2.heap.objs.size=some {cls:=.type "list", dict:=none,data:=.seq ([]:List Value).toArray}:=hkeep _ _ (Heap.get?_push_size _ rfl)
 have fpD:∀b∈s2.heap.objs.size::fp,FpOk X pins H2 b:=fun b hb=>by
  rcases List.mem_cons.mp hb with rfl|hb
  ·exact I2.fpOk (Nat.le_refl _) hDn
  ·exact f2 b hb
 have ltD:∀b∈fp,b < s2.heap.objs.size:=fun b hb=>by
  obtain⟨o,e,_⟩:=Tn.obj _ _ st2 b hb
  exact Heap.lt_size e
 have ltD':∀b∈s2.heap.objs.size::fp,b < (s2.heap.push {cls:=.type "list", dict:=none,data:=.seq ([]:List Value).toArray}).objs.size:=fun b hb=>by
  rw[hsz]
  rcases List.mem_cons.mp hb with rfl|hb
  ·exact Nat.lt_succ_self _
  ·exact Nat.lt_succ_of_lt (ltD b hb)
 have hhas:∀x,((relabel scope X.env).names.lookup x=some .cell∨(relabel scope X.env).names.lookup x=some .free)->∃c,cl.lookup x=some c:=fun x hx=>by
  have z:∃k',(relabel scope X.env).names.lookup x=some k'/\(k'=.cell∨k'=.free):=by
   rcases hx with hx|hx
   ·exact⟨_,hx,.inl rfl⟩
   ·exact⟨_,hx,.inr rfl⟩
  obtain⟨k',e,hk'⟩:=z
  obtain⟨k,hm,hkk⟩:=relabel_mem e
  have hf:k=.free:=by
   rcases hkk with rfl|⟨h,_⟩
   ·rcases hk' with rfl|rfl
    ·exact absurd rfl (hcell' _ hm)
    ·rfl
   ·exact h
  subst hf
  exact p3 (x,.free) hm rfl
 obtain⟨m3,hn3,hl3⟩:=I3.loc
 have J4:Inv (compCx X (tn++fr.map (·.1)) scope cl (s2.heap.push {cls:=.type "list", dict:=none,data:=.seq ([]:List Value).toArray}).objs.size {s2 with heap:=s2.heap.push {cls:=.type "list", dict:=none,data:=.seq ([]:List Value).toArray} } H2 (s2.heap.objs.size::fp)) []
   (slotsOf σ tn.length fr) H2 {s2 with heap:=h4,toks:=s2.toks + ([]:List (Str×Value)).length}:=by
  refine comp_start I3 hc hk (Nat.le_refl _) p1 hhas fpD ltD' rfl I2.bare hkeep hns (fun i x v h1 h2=>?_) (by simp[slotsOf])
  unfold slotsOf at h2
  by_cases hi:i < tn.length
  ·rw[List.getElem?_append_left (by simpa using hi),List.getElem?_replicate]at h2
   split at h2<;>cases h2
  ·rw [List.getElem?_append_right (by simpa using hi),List.length_replicate,List.getElem?_map]at h2
   rw[List.getElem?_append_right (by omega),List.getElem?_map]at h1
   cases ep:fr[i - tn.length]? with
   | none=>rw[ep]at h1;cases h1
   | some p =>
    rw[ep]at h1 h2
    have h1':p.1=x:=by simpa using h1
    have h2':(σ[p.2]?).getD none=some v:=by simpa using h2
    have h2'':σ[p.2]?=some (some v):=by
     cases e:σ[p.2]? with
     | none=>rw[e]at h2';cases h2'
     | some z=>rw[e]at h2';exact congrArg some h2'
    have hp:p∈fr:=List.mem_of_getElem? ep
    obtain⟨k1,k2⟩:=hfr' p hp
    subst h1'
    obtain⟨u,ru,lk⟩:=hl3 p.2 p.1 v (hfN p hp) h2'' (.inr (.inl k1))
    refine⟨u,ru,.inr ⟨.inl ?_,?_⟩⟩
    ·exact relabel_free (by rw[hsc];exact hk0) k2 k1
    ·rcases lk with ⟨z,_⟩|⟨_,c,e,o,ho,hd⟩
     ·rw[k1]at z;cases z
     ·obtain⟨c',e'⟩:=p3 (p.1,.free) (PySem.mem_of_lookup k2) rfl
      have:=p1 _ _ e'
      rw[e]at this
      cases this
      exact⟨c,e',o,hkeep c o ho,hd⟩
 have R4:RepSt X.K H2 H2 (slotsOf σ tn.length fr) (List.replicate tn.length Slot.no++(fr.map (·.2)).map fun i=>hide (sget τ i)):=repSt_comp tn.length fr R0 S2
 have ne:(s2.heap.objs.size:Addr)∉fp:=fun z=>absurd (ltD _ z) (Nat.lt_irrefl _)
 have st4:tn' 0 h4:=Tn.keep _ _ _ st2 fun b hb o e=>hkeep b o (Heap.get?_push_of_some _ e)
 have lp:=comp_loop (scope:=scope) (H2:=H2) (s2:=s2) (X:=X) (X':=compCx X (tn++fr.map (·.1)) scope cl (s2.heap.push {cls:=.type "list", dict:=none,data:=.seq ([]:List Value).toArray}).objs.size {s2 with heap:=s2.heap.push {cls:=.type "list", dict:=none,data:=.seq ([]:List Value).toArray} } H2 (s2.heap.objs.size::fp)) (h3:=s2.heap.push {cls:=.type "list", dict:=none,data:=.seq ([]:List Value).toArray}) (pins:=pins) (s4:={s2 with heap:=h4,toks:=s2.toks + ([]:List (Str×Value)).length}) (use:=use) (QQ:=QQ) (iter:=iter) (pos:=pos) (hg _ _ _ _ _) (hu _ _ _ _ _) (he _ _ _ _ _) rfl rfl rfl rfl rfl rfl rfl rfl rfl rfl rfl rfl hsz (fun b o e=>Heap.get?_push_of_some _ e) rfl I2 f2 Tn ne S2 wk hlen J4 R4 st4 (fun b hb=>(fpD b hb).1) hDat q (fun H6 h=>I3.fpOk (Nat.le_refl _) h) hend
 exact codeAny_compStart_list lp (Tn.self _ 0 _ _ _ st4 lp)
theorem jcomp{elt target iter:Expr}{ifs:List Expr}{scope sc0:Scope}{tn N0:List Str}{fr:List (Str×Nat)}{wi:WI}{g:TGt}{ut:WT}{we:WE}(hsc:X.env.scope=sc0)(hN0:X.N=N0)(hc:X.calm=true)
  (hi:JI X target iter wi) (hk:scope.kind=.function) (hk0:sc0.kind=.function)
  (hnames:(scope.names.all fun x=>x.2 != .local||scope.names.lookup x.1==some .local)=true) (hcell:(scope.names.all fun x=>x.2 != .cell)=true)
  (hfree:(scope.names.all fun x=>x.2 != .free||sc0.names.lookup x.1==some .cell)=true)
  (hfr:(fr.all fun p=>(sc0.names.lookup p.1==some .cell&&scope.names.lookup p.1==some .free)&&N0[p.2]?==some p.1)=true)
  (hg:∀cl C s3 H2 ex,JG (compCx X (tn++fr.map (·.1)) scope cl C s3 H2 ex) target g) (hu:∀cl C s3 H2 ex,JTs (compCx X (tn++fr.map (·.1)) scope cl C s3 H2 ex) ifs ut)
  (he:∀cl C s3 H2 ex,JE (compCx X (tn++fr.map (·.1)) scope cl C s3 H2 ex) elt we)
  (hs:∀x,foldedSetIterable iter X.env x=pure x:=by intro _;rfl):JE X (.ListComp elt [⟨target,iter,ifs,0⟩] scope pos) (wComp wi g ut we tn.length (fr.map (·.2))):=by
 intro pins s σ H Q I hw
 obtain⟨τ,Q0,R0,hw,kk⟩:=hw
 rw[eval_ListComp]
 refine comp_core hsc hN0 hc hi.c hk hk0 hnames hcell hfree hfr hg hu he hs (pos':=_) (use:=none) I R0 hw fun s6 H6 D C m6 t f I6 fp hn S r q _=>?_
 refine⟨m6,hn,fun h7 hs7=>?_⟩
 obtain⟨g1,g2,g3,g4,g5,g6⟩:=fp
 exact⟨.ref D,H6,I6.turned (t':=s6.toks) (it:=C) (fun b o hb e=>(hs7.2 b hb).trans e) g1 g2 g4 g5 g6,rfl,kk _ _ _ S r q⟩
theorem jsetc{elt target iter:Expr}{ifs:List Expr}{scope sc0:Scope}{tn N0:List Str}{fr:List (Str×Nat)}{wi:WI}{g:TGt}{ut:WT}{we:WE}{i:Nat}{x:Str}{pos' spos:Pos}(hN:X.N.Nodup)(hiN:X.N[i]?=some x)(hx:Loc X.env.scope x)
  (hsc:X.env.scope=sc0) (hN0:X.N=N0) (hc:X.calm=true)
  (hi:JI X target iter wi) (hk:scope.kind=.function) (hk0:sc0.kind=.function)
  (hnames:(scope.names.all fun x=>x.2 != .local||scope.names.lookup x.1==some .local)=true) (hcell:(scope.names.all fun x=>x.2 != .cell)=true)
  (hfree:(scope.names.all fun x=>x.2 != .free||sc0.names.lookup x.1==some .cell)=true)
  (hfr:(fr.all fun p=>(sc0.names.lookup p.1==some .cell&&scope.names.lookup p.1==some .free)&&N0[p.2]?==some p.1)=true)
  (hg:∀cl C s3 H2 ex,JG (compCx X (tn++fr.map (·.1)) scope cl C s3 H2 ex) target g) (hu:∀cl C s3 H2 ex,JTs (compCx X (tn++fr.map (·.1)) scope cl C s3 H2 ex) ifs ut)
  (he:∀cl C s3 H2 ex,JE (compCx X (tn++fr.map (·.1)) scope cl C s3 H2 ex) elt we)
  (hs:∀x,foldedSetIterable iter X.env x=pure x:=by intro _;rfl)
  (hsw:swapsWith (.ListComp elt [⟨target,iter,ifs,0⟩] scope pos) (some (.Name x pos')) spos.line X.env=pure true:=by rfl)
  (hf:X.fn x=true∨X.env.scope.names.lookup x=some .local:=by first|exact .inl rfl|exact .inr rfl|assumption) :
  JS X (.Assign [.Name x pos'] (.ListComp elt [⟨target,iter,ifs,0⟩] scope pos) spos) (sSet i (wComp wi g ut we tn.length (fr.map (·.2)))):=by
 intro pins s σ H D I ⟨τ,D0,R0,hw,k,_⟩
 rw[exec_Assign_Name_used _ _ _ _ hsw]
 refine wpAny_bind (wpAny_standAt (wpAny_bind ?_))
 rw[arm_evalThenUse_ListComp]
 dsimp only
 refine wpAny_bind (wpAny_mono (comp_core (QQ:=fun _ s'=>SP X pins D .next s') hsc hN0 hc hi.c hk hk0 hnames hcell hfree hfr hg hu he hs (use:=some (assign (.Name x pos') X.env)) I R0 hw fun s6 H6 Da C m6 t f I6 fp hn S r q _=>?_) (fun _ s' h=>wpAny_pure (wpAny_pure h)) fun _ _ z=>z)
 obtain⟨oC,es,ep,hoC,hdC,hrC⟩:=id hn
 have Ip:=I6.pinned (fp:=[C]) (fun b hb=>by rw[List.mem_singleton.mp hb];exact fp) fun b hb=>by
  rw[List.mem_singleton.mp hb]
  exact⟨oC,hoC,fun v z=>by rw[hdC]at z;cases z⟩
 have gn:=pg_name (pos:=pos') hN hiN hx hf _ s6 σ H6 (.ref Da) (.ref Da) (fun σ' H'=>σ'=σ.set i (some (.ref Da))/\H'=H6) Ip rfl ⟨rfl,rfl⟩
 refine wpAny_mono gn (fun _ s7 h7=>?_) fun _ _ z=>z
 obtain⟨σ7,H7,I7,rfl,rfl⟩:=h7
 have pC:=(I7.pin (C,oC) (List.mem_append_right _ (List.mem_append_right _ (mem_pinsAt (List.mem_singleton.mpr rfl) hoC)))).1
 refine⟨m6,⟨oC,es,ep,pC,hdC,hrC⟩,fun h8 hs8=>?_⟩
 obtain⟨g1,g2,g3,g4,g5,g6⟩:=fp
 have I8:Inv X pins (σ.set i (some (.ref Da))) H7 s7:=I7.pins_of fun p hp=>I7.pin p (List.mem_append_right _ (List.mem_append_left _ hp))
 exact⟨_,H7,I8.turned (t':=s7.toks) (it:=C) (fun b o hb e=>(hs8.2 b hb).trans e) g1 g2 g4 g5 g6,k _ _ H7 (.of S) ((R0.mono S).put r) q⟩
end
end TL
end
section
namespace TL
open PySem PySem.Spec PyProof.Rows L2
def SeqIt(h:Heap)(it l:Addr)(k:Nat)(xs:Array Value):Prop:=(h.IsListIter it l k/\h.IsList l xs)∨(h.IsTupleIter it l k/\h.IsTuple l xs)
theorem SeqIt.keep{h h':Heap}{it l:Addr}{k:Nat}{xs:Array Value}(x:SeqIt h it l k xs)(q:∀b o,b=it∨b=l->h.get? b=some o->h'.get? b=some o):SeqIt h' it l k xs:=by
 rcases x with ⟨⟨o,e,r⟩,p,e2,r2⟩|⟨⟨o,e,r⟩,p,e2,r2⟩
 ·exact .inl ⟨⟨o,q _ _ (.inl rfl) e,r⟩,p,q _ _ (.inr rfl) e2,r2⟩
 ·exact .inr ⟨⟨o,q _ _ (.inl rfl) e,r⟩,p,q _ _ (.inr rfl) e2,r2⟩
theorem SeqIt.lt{h:Heap}{it l:Addr}{k:Nat}{xs:Array Value}(x:SeqIt h it l k xs):it < h.objs.size/\l < h.objs.size:=by
 rcases x with ⟨⟨o,e,_⟩,p,e2,_⟩|⟨⟨o,e,_⟩,p,e2,_⟩
 ·exact⟨Heap.lt_size e,Heap.lt_size e2⟩
 ·exact⟨Heap.lt_size e,Heap.lt_size e2⟩
theorem SeqIt.obj{h:Heap}{it l:Addr}{k:Nat}{xs:Array Value}(x:SeqIt h it l k xs):∃o,h.get? it=some o/\∀v,o.data ≠ .cell v:=by
 rcases x with ⟨⟨o,e,c,d⟩,_⟩|⟨⟨o,e,c,d⟩,_⟩
 ·exact⟨o,e,fun v z=>by rw[d]at z;cases z⟩
 ·exact⟨o,e,fun v z=>by rw[d]at z;cases z⟩
section
variable {prog:Program} {w:World} {A:Around} {E:Value->Shared->Prop} {s:Shared}
structure Zp(h:Heap)(z TI TO i j l m:Addr)(f:Value)(k:Nat)(xs ys:Array Value):Prop where
 z:IsZip h z TI TO f
 ti:IsPair h TI (.ref i) (.ref j)
 to:∃a b,IsPair h TO a b
 one:SeqIt h i l k xs
 two:SeqIt h j m k ys
structure Zd(z TI TO i j l m:Addr):Prop where
 nd:[z,TI,TO,i,j].Nodup
 l:l∉[z,TI,TO,i,j]
 m:m∉[z,TI,TO,i,j]
theorem Zd.all{z TI TO i j l m:Addr}(d:Zd z TI TO i j l m):(z≠TI/\z≠TO/\z≠i/\z≠j)/\(TI≠TO/\TI≠i/\TI≠j)/\(TO≠i/\TO≠j)/\i≠j/\(l≠z/\l≠TI/\l≠TO/\l≠i/\l≠j)/\(m≠z/\m≠TI/\m≠TO/\m≠i/\m≠j):=by
 obtain⟨a,b,c⟩:=d
 simp only[List.nodup_cons,List.mem_cons,List.not_mem_nil,or_false,not_or,List.nodup_nil,not_false_eq_true,and_true]at a b c
 exact⟨⟨a.1.1,a.1.2.1,a.1.2.2.1,a.1.2.2.2⟩,⟨a.2.1.1,a.2.1.2.1,a.2.1.2.2⟩,⟨a.2.2.1.1,a.2.2.1.2⟩,a.2.2.2,⟨b.1,b.2.1,b.2.2.1,b.2.2.2.1,b.2.2.2.2⟩,c.1,c.2.1,c.2.2.1,c.2.2.2.1,c.2.2.2.2⟩
end
end TL
end
section
namespace TL
open PySem PySem.Spec PyProof.Rows L2
def SeqK(h:Heap)(c:Bool)(l:Addr)(xs:Array Value):Prop:=match c with|true=>h.IsList l xs|false=>h.IsTuple l xs
def ItK(h:Heap)(c:Bool)(it l:Addr)(k:Nat):Prop:=match c with|true=>h.IsListIter it l k|false=>h.IsTupleIter it l k
theorem SeqK.lt{h:Heap}{c:Bool}{l:Addr}{xs:Array Value}(x:SeqK h c l xs):l < h.objs.size:=by
 cases c
 ·obtain⟨o,e,_⟩:=x;exact Heap.lt_size e
 ·obtain⟨o,e,_⟩:=x;exact Heap.lt_size e
theorem SeqK.push{h:Heap}{c:Bool}{l:Addr}{xs:Array Value}(x:SeqK h c l xs)(o:Obj):SeqK (h.push o) c l xs:=by
 cases c
 ·exact Heap.IsTuple.push x o
 ·exact Heap.IsList.push x o
theorem ItK.get{h:Heap}{c:Bool}{it l:Addr}{k:Nat}(x:ItK h c it l k):∃o,h.get? it=some o/\∀v,o.data ≠ .cell v:=by
 cases c
 ·obtain⟨o,e,c,d⟩:=x;exact⟨o,e,fun v z=>by rw[d]at z;cases z⟩
 ·obtain⟨o,e,c,d⟩:=x;exact⟨o,e,fun v z=>by rw[d]at z;cases z⟩
theorem ItK.keep{h h':Heap}{c:Bool}{it l:Addr}{k:Nat}(x:ItK h c it l k)(q:∀o,h.get? it=some o->h'.get? it=some o):ItK h' c it l k:=by
 cases c
 ·obtain⟨o,e,r⟩:=x;exact⟨o,q o e,r⟩
 ·obtain⟨o,e,r⟩:=x;exact⟨o,q o e,r⟩
theorem ItK.seq{h:Heap}{c:Bool}{it l:Addr}{k:Nat}{xs:Array Value}(x:ItK h c it l k)(y:SeqK h c l xs):SeqIt h it l k xs:=by
 cases c
 ·exact .inr ⟨x,y⟩
 ·exact .inl ⟨x,y⟩
theorem SeqIt.kind{h:Heap}{c:Bool}{it l:Addr}{k:Nat}{xs ys:Array Value}(x:SeqIt h it l k xs)(y:SeqK h c l ys):ItK h c it l k:=by
 rcases x with ⟨a,o,e,c1,_⟩|⟨a,o,e,c1,_⟩
 ·cases c
  ·obtain⟨o',e',c2,_⟩:=y
   rw[e]at e';cases e';rw[c1]at c2;simp at c2
  ·exact a
 ·cases c
  ·exact a
  ·obtain⟨o',e',c2,_⟩:=y
   rw[e]at e';cases e';rw[c1]at c2;simp at c2
section
variable {prog:Program} {w:World} {A:Around} {E:Value->Shared->Prop} {s:Shared}
end
section
variable {prog:Program} {w:World} {A:Around} {E:Value->Shared->Prop} {s:Shared}
end
def SqK(K:PySem.W.Frag)(H:Hp)(c:Bool)(a:Addr)(xs:List V):Prop:=match c with|true=>SqF K H a xs|false=>SqT K H a xs
theorem SqK.kp{K:PySem.W.Frag}{H H':Hp}{c:Bool}{a:Addr}{xs:List V}(h:SqK K H c a xs)(k:Kp H H'):SqK K H' c a xs:=by
 cases c
 ·exact sqT_kp k h
 ·exact sqF_kp k h
structure Zt(h:Heap)(z TI TO i j l m:Addr)(c d:Bool)(k:Nat):Prop where
 z:IsZip h z TI TO .none
 ti:IsPair h TI (.ref i) (.ref j)
 to:∃a b,IsPair h TO a b
 one:ItK h c i l k
 two:ItK h d j m k
def seqOf:T->Option (List T)
 | .tup ts=>some ts
 | .lst ts=>some ts
 | _=>none
def zipT:List T->List T->List T
 | x::xs,y::ys=>.tup [x,y]::zipT xs ys
 | _,_=>[]
def iZip(ws:WA):WI:=fun τ Q=>ws τ fun ts=>match ts with
 | [a,b]=>(match seqOf a,seqOf b with|some xs,some ys=>Q (zipT xs ys)|_,_=>False)
 | _=>False
section
variable {X:Cx} {a b:Expr} {ws:WA} {pos:Pos}
end
end TL
end
section
namespace TL
open PySem PySem.Spec PyProof.Rows L2
section
variable {X:Cx}
def intsOf:List T->Option (List Int)
 | []=>some []
 | .int i::r=>(intsOf r).map (i :: ·)
 | _=>none
def rSumT(ts:List T)(Q:T->Prop):Prop:=match ts with
 | [.lst xs]=>(match intsOf xs with|some ns=>Q (.int ns.sum)|none=>False)
 | _=>False
theorem boolsAre_of:∀{bs:List Bool}{us:List Value},Vals (bs.map V.bl) us->LSm.BoolsAre us bs
 | [],us,h=>by cases h;exact .nil
 | b::bs,us,h=>by
  simp only[List.map_cons]at h
  cases h with
  | cons r1 r2=>cases r1;exact .cons b (boolsAre_of r2)
theorem call_allL(hc:X.calm=true):CallR X (.builtin "all") (fun xs H Q=>∃(p:Addr) (bs:List Bool),xs=[.ref p]/\SqL X.K H p (bs.map V.bl)/\Q (.bl (bs.all id)) H):=by
 intro pins s σ H xs us Q I r h
 obtain⟨p,bs,rfl,hq,q⟩:=h
 obtain⟨u,rfl,rx⟩:=vals1 r
 cases rx
 obtain⟨its,r',pl,hz⟩:=I.list hq
 have hb:LSm.BoolsAre its bs:=boolsAre_of r'
 have hl:=pl.isList
 have hlt:p < s.heap.objs.size:=by obtain⟨_,e,_⟩:=hl;exact Heap.lt_size e
 refine call_all_walk (wpAny_pyIter_list hl ?_)
 refine⟨s.heap.objs.size,[s.heap.objs.size,p],[s.heap.objs.size],its.toArray.size,_,_,fun i=>(bs[i]?).getD true,rfl,Walks.list (A:=X.A.in1) (I.ok.hd hc) _ p (Nat.ne_of_lt hlt) its.toArray,
  ⟨⟨_,Heap.get?_push_size _ rfl,rfl,rfl⟩,hl.push _⟩,fun i v s' Q' E' hP hQ=>?_,fun h' tk hk=>?_⟩
 ·obtain⟨b,e,rfl⟩:=hb.get i v (by simpa using hP)
  simp only[e,Option.getD_some]at hQ
  exact wpAny_truthy_bool hQ
 ·have e:((List.range its.toArray.size).all fun i=>(bs[i]?).getD true)=bs.all id:=by
   rw[List.size_toArray,hb.length];exact LSm.range_all bs
  rw[e]
  exact⟨.bl (bs.all id),H,I.kept (t':=tk) (LSm.kept_iter hk),rfl,q⟩
def boolsOf:List T->Option (List Bool)
 | []=>some []
 | .bl i::r=>(boolsOf r).map (i :: ·)
 | _=>none
theorem boolsOf_eq:∀{ts:List T}{ns:List Bool},boolsOf ts=some ns->ts=ns.map T.bl
 | [],ns,h=>by simp only[boolsOf,Option.some.injEq]at h;subst h;rfl
 | t::r,ns,h=>by
  cases t with
  | bl i =>
   simp only[boolsOf,Option.map_eq_some_iff]at h
   obtain⟨ms,e,rfl⟩:=h
   rw[boolsOf_eq e]
   rfl
  | _=>simp[boolsOf]at h
theorem reps_bools_inv{K:PySem.W.Frag}{H:Hp}:∀{ns:List Bool}{vs:List V},Reps K H (ns.map T.bl) vs->vs=ns.map V.bl
 | [],vs,h=>by simpa using reps_nil.mp h
 | n::ns,vs,h=>by
  simp only[List.map_cons]at h
  rw[reps_cons]at h
  obtain⟨v,r,rfl,h1,h2⟩:=h
  rw[rep_bl.mp h1,reps_bools_inv h2]
  rfl
def rAllT(ts:List T)(Q:T->Prop):Prop:=match ts with
 | [.lst xs]=>(match boolsOf xs with|some bs=>Q (.bl (bs.all id))|none=>False)
 | _=>False
theorem bl_all(hc:X.calm=true):BlR X (.builtin "all") rAllT:=by
 refine⟨_,call_allL hc,fun ts vs H Q0 Q r q k=>?_⟩
 unfold rAllT at q
 split at q
 ·obtain⟨v,rfl,r1⟩:=reps1 r
  split at q
  ·rename_i ns e
   rw[boolsOf_eq e,rep_lst]at r1
   obtain⟨p,ys,rfl,sq,rr⟩:=r1
   rw[reps_bools_inv rr]at sq
   exact⟨p,ns,rfl,sq.sq,k _ _ H (.refl H) (rep_bl.mpr rfl) q⟩
  ·exact q.elim
 ·exact q.elim
theorem upd_upd{H:Hp}{p:Addr}{a b:HO}:upd (upd H p a) p b=upd H p b:=by
 funext c
 by_cases h:c=p
 ·subst h;rw[upd_same,upd_same]
 ·rw[upd_ne h,upd_ne h,upd_ne h]
theorem call_listF:CallR X (.type "list") (fun xs H Q=>∃p ys,xs=[.ref p]/\(SqL X.K H p ys∨SqT X.K H p ys)/\∀l o,H l=none->Q (.ref l) (upd H l (.frz o (.lst ys)))):=by
 intro pins s σ H xs us Q I r h
 obtain⟨p,ys,e,hq,q⟩:=h
 refine thn (call_list_of pins s σ H xs us (fun v H'=>∃l,v=.ref l/\H l=none/\H'=upd H l (.lst ys)) I r ⟨p,ys,e,hq,fun l hl=>⟨l,rfl,hl,rfl⟩⟩) fun u s1 ⟨v,H1,I1,rv,l,e1,hl,e2⟩=>?_
 subst e1 e2
 obtain⟨o,I2⟩:=Inv.freeze I1 (upd_same (o:=.lst ys))
 rw[upd_upd]at I2
 exact⟨_,_,I2,rv,q l o hl⟩
def rListT(ts:List T)(Q:T->Prop):Prop:=match ts with
 | [.tup xs]=>Q (.lst xs)
 | [.lst xs]=>Q (.lst xs)
 | _=>False
theorem ty_list:BlR X (.type "list") rListT:=by
 refine⟨_,call_listF,fun ts vs H Q0 Q r q k=>?_⟩
 have fin:∀{xs:List T}{ys:List V},Q0 (.lst xs)->Reps X.K H xs ys->∀l o,H l=none->Q (.ref l) (upd H l (.frz o (.lst ys))):=fun q rr l o hl =>
  k _ _ _ (same_new hl _) (rep_lst.mpr ⟨l,_,rfl,.inl ⟨o,upd_same⟩,rr.kp (.of (same_new hl _))⟩) q
 unfold rListT at q
 split at q
 ·obtain⟨v,rfl,r1⟩:=reps1 r
  rw[rep_tup]at r1
  obtain⟨p,ys,rfl,sq,rr⟩:=r1
  exact⟨p,ys,rfl,.inr sq,fin q rr⟩
 ·obtain⟨v,rfl,r1⟩:=reps1 r
  rw[rep_lst]at r1
  obtain⟨p,ys,rfl,sq,rr⟩:=r1
  exact⟨p,ys,rfl,.inl sq.sq,fin q rr⟩
 ·exact q.elim
end
end TL
end
section
namespace TL
open PySem PySem.Spec PyProof.Rows L2
section
variable {X:Cx} {a b c e:Expr} {es:List Expr} {wa wb wc w:WE} {ws:WA} {pos:Pos}
def rSeqCat(K:PySem.W.Frag):R2:=fun x y H Q=>∃a b xs ys,x=.ref a/\y=.ref b/\xs.length + ys.length<=sizeLine ∧
  ((SqL K H a xs/\SqL K H b ys/\∀p o,H p=none->Q (.ref p) (upd H p (.frz o (.lst (xs++ys))))) ∨
   (SqT K H a xs/\SqT K H b ys/\(xs=[]->Q (.ref b) H)/\(xs≠[]->ys=[]->Q (.ref a) H)/\(xs≠[]->ys≠[]->∀p,H p=none->Q (.ref p) (upd H p (.tup (xs++ys))))))
theorem op_seqCat:OpR X (binaryOp .Add) (rSeqCat X.K):=by
 intro pins s σ H x y v u Q I rx ry h
 obtain⟨a,b,xs,ys,rfl,rfl,hz,h⟩:=h
 cases rx
 cases ry
 rcases h with ⟨ha,hb,q⟩|⟨ha,hb,q0,q1,q2⟩
 ·obtain⟨its,r1,p1,_⟩:=I.list ha
  obtain⟨its2,r2,p2,_⟩:=I.list hb
  have hl1:=r1.length
  have hl2:=r2.length
  obtain⟨⟨cls,dd,data,sl⟩,ho,hc,n,hd⟩:=p1.isList
  obtain⟨⟨cls2,dd2,data2,sl2⟩,ho2,hc2,n2,hd2⟩:=p2.isList
  simp only at hc hd hc2 hd2
  subst hc hd hc2 hd2
  refine concat_meets ⟨_,ho,rfl⟩ ⟨_,ho2,rfl⟩ noFill_list_add seq_list_add PySem.F.slot_list_add PySem.F.entry_list_add (PySem.F.args_list_add_2 _ _) (list_addW a b its.toArray its2.toArray n n2 dd dd2 sl sl2 (by simp only[List.size_toArray];omega)) ⟨ho,ho2,?_⟩
  have e:its.toArray++its2.toArray=(its++its2).toArray:=by simp
  rw[e]
  have hf:H s.heap.objs.size=none:=I.hok.fresh (Nat.le_refl _)
  refine⟨.ref s.heap.objs.size,upd H s.heap.objs.size (.frz {cls:=.type "list", data:=.seq (its++its2).toArray} (.lst (xs++ys))),I.laid (t':=s.toks) (fun b u e=>Heap.get?_push_of_some _ e) (Nat.le_refl _) ?_,rfl,q _ _ hf⟩
  exact⟨Heap.get?_push_size _ rfl,by rw[List.length_append];exact hz,its++its2,0,r1.append r2,Heap.get?_push_size _ rfl⟩
 ·obtain⟨its,r1,p1,_⟩:=I.tuple ha
  obtain⟨its2,r2,p2,_⟩:=I.tuple hb
  by_cases hx:xs=[]
  ·subst hx
   have hi:its=[]:=r1.nil_iff.mpr rfl
   subst hi
   obtain⟨⟨cls,dd,data,sl⟩,ho,hc,n,hd⟩:=p1
   obtain⟨⟨cls2,dd2,data2,sl2⟩,ho2,hc2,n2,hd2⟩:=p2
   simp only at hc hd hc2 hd2
   subst hc hd hc2 hd2
   refine concat_meets ⟨_,ho,rfl⟩ ⟨_,ho2,rfl⟩ noFill_tuple_add seq_tuple_add PySem.F.slot_tuple_add PySem.F.entry_tuple_add (PySem.F.args_tuple_add_2 _ _) (tuple_addW0 a b _ _ n n2 dd dd2 sl sl2 rfl) ⟨ho,ho2,?_⟩
   exact⟨.ref b,H,I,rfl,q0 rfl⟩
  ·refine HT.cat_tup p1 p2 (fun z=>hx (r1.nil_iff.mp z)) (fun z=>⟨.ref a,H,I,rfl,q1 hx (r2.nil_iff.mp z)⟩) (fun z=>?_) (by rw[← r1.length,← r2.length];exact hz)
   refine⟨.ref s.heap.objs.size,_,I.laid (t':=s.toks) (o:=.tup (xs++ys)) (fun b ob q=>Heap.get?_push_of_some _ q) (Nat.le_refl _) ?_,rfl,q2 hx (fun w=>z (r2.nil_iff.mpr w)) _ (I.hok.fresh (Nat.le_refl _))⟩
   exact⟨by rw[List.length_append];exact hz,_,r1.append r2,IsTup.new _ _⟩
def rCatLT(x y:T)(Q:T->Prop):Prop:=match x,y with
 | .lst xs,.lst ys=>xs.length + ys.length<=1000/\Q (.lst (xs++ys))
 | .tup xs,.tup ys=>xs.length + ys.length<=1000/\Q (.tup (xs++ys))
 | _,_=>False
theorem b_cat:BR X .Add rCatLT:=by
 refine⟨_,op_seqCat,fun t1 t2 v1 v2 H Q0 Q r1 r2 q k=>?_⟩
 unfold rCatLT at q
 split at q
 ·rw[rep_lst]at r1 r2
  obtain⟨p,vs,rfl,sq,rr⟩:=r1
  obtain⟨p',vs',rfl,sq',rr'⟩:=r2
  exact⟨p,p',vs,vs',rfl,rfl,by rw[rr.length,rr'.length];exact few q.1,.inl ⟨sq.sq,sq'.sq,fun l o hl =>
   k _ _ _ (same_new hl _) (rep_lst.mpr ⟨l,_,rfl,.inl ⟨o,upd_same⟩,(rr.append rr').kp (.of (same_new hl _))⟩) q.2⟩⟩
 ·have e1:=r1
  have e2:=r2
  rw[rep_tup]at r1 r2
  obtain⟨p,vs,rfl,sq,rr⟩:=r1
  obtain⟨p',vs',rfl,sq',rr'⟩:=r2
  have z1:=rr.length
  have z2:=rr'.length
  refine⟨p,p',vs,vs',rfl,rfl,by rw[rr.length,rr'.length];exact few q.1,.inr ⟨sq,sq',fun hx=>?_,fun _ hy=>?_,fun _ _ l hl =>
   k _ _ _ (same_new hl _) (rep_tup.mpr ⟨l,_,rfl,SqT.of upd_same,(rr.append rr').kp (.of (same_new hl _))⟩) q.2⟩⟩
  ·subst hx
   rename_i xs ys
   have:xs=[]:=List.length_eq_zero_iff.mp (by simpa using z1.symm)
   subst this
   exact k _ _ H (.refl H) e2 q.2
  ·rename_i xs ys _
   subst hy
   have:ys=[]:=List.length_eq_zero_iff.mp (by simpa using z2.symm)
   subst this
   have q':=q.2
   rw[List.append_nil]at q'
   exact k _ _ H (.refl H) e1 q'
 ·exact q.elim
def rMin3T(ts:List T)(Q:T->Prop):Prop:=match ts with
 | [.int i,.int j,.int k]=>Q (.int (if j < i then (if k < j then k else j) else (if k < i then k else i)))
 | _=>False
end
end TL
end
section
namespace TL
open PySem PySem.Spec PyProof.Rows L2
section
variable {X:Cx} {a b c e:Expr} {es:List Expr} {wa wb wc w:WE} {ws:WA} {pos:Pos}
def cnt3(lo hi c:Int):Nat:=(Builtin.Range.rangeSize lo hi c).toNat
def range3T:Int->Int->Nat->List T
 | _,_,0=>[]
 | lo,c,n + 1=>.int lo::range3T (lo + c) c n
def iRange3(ws:WA):WI:=fun τ Q=>ws τ fun ts=>match ts with
 | [.int i,.int j,.int k]=>(-(2 ^ 30)<=i/\i < 2 ^ 30 /\ -(2 ^ 30)<=j/\j < 2 ^ 30/\0 < k/\k < 2 ^ 30)/\Q (range3T i k (cnt3 i j k))
 | _=>False
theorem Vals.reverse:∀{vs:List V}{us:List Value},Vals vs us->Vals vs.reverse us.reverse
 | _,_,.nil=>.nil
 | _,_,.cons r rr=>by
  rw[List.reverse_cons,List.reverse_cons]
  exact(Vals.reverse rr).append (.cons r .nil)
theorem Reps.reverse{K:PySem.W.Frag}{H:Hp}:∀{ts:List T}{vs:List V},Reps K H ts vs->Reps K H ts.reverse vs.reverse
 | [],vs,h=>by rw[reps_nil]at h;subst h;simp[reps_nil]
 | t::ts,vs,h=>by
  rw[reps_cons]at h
  obtain⟨v,r,rfl,a,b⟩:=h
  rw[List.reverse_cons,List.reverse_cons]
  exact(Reps.reverse b).append (.one a)
def wRev(wa ws:WE):WE:=fun τ Q=>wa τ fun x=>ws τ fun y=>match x,y with | .lst ts,.int i=>i=-1/\Q (.lst ts.reverse)|_,_=>False
end
end TL
end
section
namespace TL
open PySem PySem.Spec PyProof.Rows L2
section
variable {prog:Program} {w:World} {A:Around} {E:Value->Shared->Prop} {s:Shared}
end
section
variable {X:Cx} {a b c e:Expr} {es:List Expr} {wa wb wc w:WE} {ws:WA} {pos:Pos}
def wRevA(wa ws:WE):WE:=fun τ Q=>wa τ fun x=>ws τ fun y=>match x,y with | .tup ts,.int i=>i=-1/\Q (.tup ts.reverse) | .lst ts,.int i=>i=-1/\Q (.lst ts.reverse)|_,_=>False
abbrev WO:=List Slot->(Option Int->Prop)->Prop
def upO(K:PySem.W.Frag)(H0:Hp)(w:WO):TO:=fun σ H Q=>∃(τ:List Slot) (Q0:Option Int->Prop),RepSt K H0 H σ τ/\w τ Q0/\∀o H',Same H H'->Q0 o->Q o H'
def JO(X:Cx)(e:Option Expr)(w:WO):Prop:=PO X e (upO X.K X.H₀ w)
def wo0:WO:=fun _ Q=>Q none
def wo(wa:WE):WO:=fun τ Q=>wa τ fun x=>match x with | .int i=>Q (some i)|_=>False
theorem po_of{e:Option Expr}{t t':TO}(h:PO X e t)(f:∀σ H Q,t' σ H Q->t σ H Q):PO X e t':=fun pins s σ H Q I hw=>h pins s σ H Q I (f σ H Q hw)
theorem jo0:JO X none wo0:=po_of po_none fun σ H Q ⟨τ,Q0,R,hw,k⟩=>k _ H (.refl H) hw
theorem jo(h:JE X e wa):JO X (some e) (wo wa):=po_of (po_some h) fun σ H Q ⟨τ,Q0,R,hw,k⟩=>⟨τ,_,R,hw,fun t v H1 S1 r q=>by
 cases t<;>first|exact q.elim|skip
 exact⟨_,rep_int.mp r,k _ H1 S1 q⟩⟩
def cutT(ts:List T)(lo hi:Option Int):List T:=(ts.drop (HT.sIx ts.length 0 lo)).take (HT.sIx ts.length ts.length hi - HT.sIx ts.length 0 lo)
theorem cut_reps{K:PySem.W.Frag}{H:Hp}{ts:List T}{vs:List V}{lo hi:Option Int}(r:Reps K H ts vs):Reps K H (cutT ts lo hi) (cutV vs lo hi):=by
 unfold cutT cutV
 rw[r.length]
 exact(r.drop _).take _
def rSlTT(x:T)(lo hi:Option Int)(Q:T->Prop):Prop:=match x with
 | .tup ts=>¬ (HT.sIx ts.length 0 lo=0/\HT.sIx ts.length ts.length hi=ts.length)/\Q (.tup (cutT ts lo hi))
 | .lst ts=>Q (.lst (cutT ts lo hi))
 | _=>False
def wSl(wa:WE)(wl wh:WO):WE:=fun τ Q=>wa τ fun x=>wl τ fun lo=>wh τ fun hi=>rSlTT x lo hi Q
def rSlF(K:PySem.W.Frag):V->Option Int->Option Int->Hp->VK->Prop:=fun x lo hi H Q=>∃a xs,x=.ref a/\SqL K H a xs/\∀p o,H p=none->Q (.ref p) (upd H p (.frz o (.lst (cutV xs lo hi))))
theorem sl_listF:SlR X (rSlF X.K):=by
 intro pins s σ H x v vl vu lo hi sl Q I rx hs pl pu h
 obtain⟨a,xs,rfl,hx,q⟩:=h
 cases rx
 obtain⟨its,r,ht,hz⟩:=I.list hx
 have hlen:=r.length
 refine⟨"list", _,slot_list_getitem.lookup,ht.isList.typeIs,?_⟩
 refine wpAny_getItem_list_slice ht.isList hs pl pu .none (by simp) ?_ (by rw[List.size_toArray]<;>omega)
 rw[slicePick_cut,← hlen]
 refine⟨.ref s.heap.objs.size,_,I.laid (t':=s.toks) (o:=.frz {cls:=.type "list", data:=.seq ((its.drop (HT.sIx xs.length 0 lo)).take (HT.sIx xs.length xs.length hi - HT.sIx xs.length 0 lo)).toArray} (.lst (cutV xs lo hi))) (fun b ob q=>Heap.get?_push_of_some _ q) (Nat.le_refl _) ?_,rfl,q _ _ (I.hok.fresh (Nat.le_refl _))⟩
 exact⟨Heap.get?_push_size _ rfl,Nat.le_trans (cutV_length xs lo hi) hz,_,0,(r.drop (HT.sIx xs.length 0 lo)).take (HT.sIx xs.length xs.length hi - HT.sIx xs.length 0 lo),Heap.get?_push_size _ rfl⟩
theorem jsl{lo hi:Option Expr}{wl wh:WO}{p2:Pos}(ha:JE X e wa)(hl:JO X lo wl)(hh:JO X hi wh):JE X (.Subscript e (.Slice lo hi none p2) pos) (wSl wa wl wh):=pe_of (pe_slice (sl_listF.or sl_tup) ha hl hh) fun σ H Q ⟨τ,Q0,R,hw,k⟩ =>
 ⟨τ,_,R,hw,fun t v H1 S1 r1 q1=>⟨τ,_,R.mono S1,q1,fun l H2 S2 q2=>⟨τ,_,R.mono (S1.trans S2),q2,fun h H3 S3 q3=>by
  have r1':=r1.kp (.of (S2.trans S3))
  cases t<;>first|exact q3.elim|skip
  ·rename_i ts
   rw[rep_tup]at r1'
   obtain⟨p,vs,rfl,sq,rr⟩:=r1'
   refine .inr ⟨p,vs,rfl,sq,by rw[rr.length];exact q3.1,fun pp hp=>k _ _ _ (S1.trans (S2.trans (S3.trans (same_new hp _)))) (rep_tup.mpr ⟨pp,_,rfl,SqT.of upd_same,(cut_reps rr).kp (.of (same_new hp _))⟩) q3.2⟩
  ·rename_i ts
   rw[rep_lst]at r1'
   obtain⟨p,vs,rfl,sq,rr⟩:=r1'
   exact .inl ⟨p,vs,rfl,sq.sq,fun pp o hp=>k _ _ _ (S1.trans (S2.trans (S3.trans (same_new hp _)))) (rep_lst.mpr ⟨pp,_,rfl,.inl ⟨o,upd_same⟩,(cut_reps rr).kp (.of (same_new hp _))⟩) q3⟩⟩⟩⟩
end
end TL
end
section
namespace TL
open PySem PySem.Spec PyProof.Rows L2
structure Fly(P:Program)(w:World)(outer:List Env)(H:Hp)(s:Shared)(H':Hp)(e:Addr)(cls:Value)(s':Shared):Prop where
 os:s'.os=s.os
 bare:AllBare s'.gens
 un:Un (frs outer) [] H H' s.heap s'.heap
 hok:HOk P w H' s'.heap
 new:s.heap.get? e=none
 non:H' e=none
 fly:∃B a0,Heap.FlyingW B outer e cls a0 s'.heap/\(∀b o,H' b=some o->∃u,B.get? b=some u)/\∀b u o,s.heap.get? b=some u->s'.heap.get? b=some o->b∉frs outer->B.get? b=some o
theorem objOk_some{P:Program}{w:World}{H:Hp}{h:Heap}{a:Addr}{o:HO}(x:ObjOk P w H h a o):∃u,h.get? a=some u:=by
 induction o with
 | lst xs=>obtain⟨_,_,_,_,e⟩:=x;exact⟨_,e⟩
 | tup xs=>obtain⟨_,_,_,ob,e,_⟩:=x;exact⟨_,e⟩
 | dK kvs=>obtain⟨_,_,_,_,o,_,_,e,_⟩:=x;exact⟨_,e⟩
 | dT kvs=>obtain⟨_,_,_,_,o,_,_,e,_⟩:=x;exact⟨_,e⟩
 | set S n=>obtain⟨o,_,_,_,e,_⟩:=x;exact⟨_,e⟩
 | ins C dx fs=>obtain⟨_,_,_,e,_⟩:=x;exact⟨_,e⟩
 | own y=>obtain⟨_,e⟩:=x;exact⟨_,e⟩
 | xd fs=>obtain⟨_,⟨_,_,_,e,_⟩,_⟩:=x;exact⟨_,e⟩
 | rng lo hi=>obtain⟨_,_,_,e⟩:=x;exact⟨_,e⟩
 | frz ob u=>obtain⟨e,_⟩:=x;exact⟨_,e⟩
 | tbl ps=>exact⟨_,(show h.get? a=some _ from x)⟩
 | met f y=>exact⟨_,(show h.get? a=some _ from x)⟩
 | ext φ=>obtain⟨_,⟨_,e⟩,_⟩:=x;exact⟨_,e⟩
theorem hok_objs{P:Program}{w:World}{H:Hp}{h h':Heap}(ok:HOk P w H h)(k:∀b o u,H b=some o->h.get? b=some u->h'.get? b=some u):HOk P w H h':=fun b o e =>
 (ok b o e).stay (fun c v hc q=>by
  rcases hc with rfl|hc
  ·exact k _ _ v e q
  ·exact k _ _ v hc q) (fun _ q=>q) fun _ _ q=>q
section
variable {X:Cx} {pins:List (Addr×Obj)} {σ:St} {H H':Hp} {s s':Shared} {e:Addr}
structure DefCx(X:Cx):Prop where
 stk:X.stack=X.env::X.outer
 frame:X.env.frame=some X.env.locals
 ex:X.ex=[]
theorem frs_cons(D:DefCx X):frs X.stack=X.env.locals::frs X.outer:=by
 rw[D.stk]
 unfold frs
 rw[List.filterMap_cons,D.frame]
end
section
variable {M:Model} {A:Around} {E:Value->Shared->Prop} {s:Shared}
theorem dict_fields(o:Obj)(f:Array Value->Array Value):(o.mapFields f).dict=o.dict:=by
 obtain⟨c,d,dt,sl⟩:=o
 cases dt<;>rfl
def DAt(h:Heap)(e:Addr)(d:Option Addr):Prop:=∃o,h.get? e=some o/\o.dict=d
theorem two_writes{base h0 h1:Heap}{l:List Env}{e:Addr}{oe tb:Obj}{vs ts:Array Value}{a0:Value}
  (hl:h0.FunFrames base l) (he:h0.get? e=some oe) (hkb:base.StaysIn h0) (hen:base.get? e=none) (hd:oe.data=.fields vs) (hsz:1 < vs.size) (hv:vs[0]?=some a0)
  (S1:Heap.SlotsOnly (l.filterMap (·.frame)) h0 h1) (htb:tb.data=.fields ts) (h3:3 < ts.size) :
  Heap.LeftW base l e oe.cls a0 h0 (((h1.push tb).update e (Obj.mapFields (·.setIfInBounds 1 (.ref h1.objs.size)))).update h1.objs.size (Obj.mapFields (·.setIfInBounds 3 .none))) ∧
   DAt (((h1.push tb).update e (Obj.mapFields (·.setIfInBounds 1 (.ref h1.objs.size)))).update h1.objs.size (Obj.mapFields (·.setIfInBounds 3 .none))) e oe.dict:=by
 have eN:e∉l.filterMap (·.frame):=by
  intro m
  obtain⟨_,o,q,n⟩:=hl.mem m
  rw[he]at q
  cases q
  exact n vs hd
 have e1:h1.get? e=some oe:=by rw[S1.2.1 e eN];exact he
 have ne:h1.objs.size≠e:=Nat.ne_of_gt (Heap.lt_size e1)
 have d3:=Obj.data_mapFields hd (·.setIfInBounds 1 (Value.ref h1.objs.size))
 have e2:=Heap.get?_update_self (Obj.mapFields (·.setIfInBounds 1 (Value.ref h1.objs.size))) (Heap.get?_push_of_some tb e1) (Obj.isFreed_of_fields d3)
 have t1:((h1.push tb).update e (Obj.mapFields (·.setIfInBounds 1 (Value.ref h1.objs.size)))).get? h1.objs.size=some tb:=by
  rw[Heap.get?_update_other _ _ (Ne.symm ne)]
  exact Heap.get?_push_size h1 (Obj.isFreed_of_fields htb)
 have d4:=Obj.data_mapFields htb (·.setIfInBounds 3 Value.none)
 have t2:=Heap.get?_update_self (Obj.mapFields (·.setIfInBounds 3 Value.none)) t1 (Obj.isFreed_of_fields d4)
 have e3:=(Heap.get?_update_other ((h1.push tb).update e (Obj.mapFields (·.setIfInBounds 1 (Value.ref h1.objs.size)))) (Obj.mapFields (·.setIfInBounds 3 Value.none)) ne).trans e2
 have rest:∀b o,b≠e->h1.get? b=some o->(((h1.push tb).update e (Obj.mapFields (·.setIfInBounds 1 (Value.ref h1.objs.size)))).update h1.objs.size (Obj.mapFields (·.setIfInBounds 3 Value.none))).get? b=some o:=by
  intro b o n q
  rw[Heap.get?_update_other _ _ (Nat.ne_of_gt (Heap.lt_size q)),Heap.get?_update_other _ _ (Ne.symm n)]
  exact Heap.get?_push_of_some _ q
 have inb:∀b o,base.get? b=some o->h1.get? b=some o:=by
  intro b o q
  rw[S1.2.1 b (by intro m;rw[(hl.mem m).1]at q;cases q)]
  exact hkb b o q
 have nr:∀b o,h0.get? b=some o->(∀us,o.data ≠ .fields us)->b≠e:=by
  rintro b o q n rfl
  rw[he]at q
  cases q
  exact n vs hd
 refine⟨⟨fun b o q=>rest b o (by rintro rfl;rw[hen]at q;cases q) (inb b o q),hl.of_keeps fun b o q n=>?_,?_,fun b o q n=>?_⟩,_,e3,dict_fields _ _⟩
 ·obtain⟨sl,z⟩:=S1.2.2 b o q
  exact⟨_,rest b _ (nr b o q n) z,rfl⟩
 ·refine⟨_,_,h1.objs.size,_,_,e3,⟨Obj.cls_mapFields _ _,?_⟩,d3,?_,?_,ne,t2,d4,?_⟩
  ·rw[Array.getElem?_setIfInBounds_ne (by decide)]
   exact hv
  ·simp[hsz]
  ·exact Heap.StaysIn.fresh inb
  ·simp[h3]
 ·obtain⟨sl,z⟩:=S1.2.2 b o q
  exact⟨sl,rest b _ (nr b o q n) z⟩
theorem entryD{base:Heap}{env:Env}{outer:List Env}{L e:Addr}{oe:Obj}{vs:Array Value}{head a0:Value}{hn:Bool}{Q:Unit->Shared->Prop}
  (hfr:A.frames=some (env::outer)) (hl:s.heap.FunFrames base (env::outer)) (hf:env.frame=some L) (he:s.heap.get? e=some oe)
  (hkb:base.StaysIn s.heap) (hen:base.get? e=none) (hd:oe.data=.fields vs) (hsz:1 < vs.size) (hv:vs[0]?=some a0)
  (h:∀h',Heap.LeftW base (env::outer) e oe.cls a0 s.heap h'->DAt h' e oe.dict->Q () {s with heap:=h' }) :
  wpAny M A (do
   let a ← frameOf env
   let pl ← entryPlaceOf L hn
   let b ← EntryCells.newEntry head a .none (rawInt L) .none pl
   setField (.ref e) 1 b) (fun _ s'=>wpAny M A (setFlight (.ref e) none) Q E s') E s:=by
 refine wpAny_bind (wpAny_frameOf_fun hfr hl hf fun h1 S1=>wpAny_bind (wpAny_entryPlaceOf fun pl hp=>?_))
 unfold EntryCells.newEntry newFields
 refine wpAny_bind (wpAny_newObj_type ?_ (hp.sizeOk5 _ _ _ _ _))
 have eN:e∉(env::outer).filterMap (·.frame):=by
  intro m
  obtain⟨_,o,q,n⟩:=hl.mem m
  rw[he]at q
  cases q
  exact n vs hd
 have e1:h1.get? e=some oe:=by rw[S1.2.1 e eN];exact he
 have ne:h1.objs.size≠e:=Nat.ne_of_gt (Heap.lt_size e1)
 have d3:=Obj.data_mapFields hd (·.setIfInBounds 1 (Value.ref h1.objs.size))
 refine wpAny_setField (Heap.get?_push_of_some _ e1) hd hsz ?_
 unfold setFlight
 refine wpAny_bind (wpAny_field (Heap.get?_update_self _ (Heap.get?_push_of_some _ e1) (Obj.isFreed_of_fields d3)) d3 (x:=.ref h1.objs.size) (by simp[hsz]) ?_)
 rw[if_pos (by simp)]
 have W:=fun z=>two_writes (tb:={cls:=.type "traceback", dict:=none,data:=.fields ([head,.ref L,.none,rawInt L,.none]++(if pl.isEmpty then List.replicate 6 Value.none else pl)).toArray}) hl he hkb hen hd hsz hv S1 rfl z
 have z:3 < ([head,.ref L,.none,rawInt L,.none]++(if pl.isEmpty then List.replicate 6 Value.none else pl)).toArray.size:=by
  simp only[List.size_toArray,List.length_append,List.length_cons,List.length_nil]
  omega
 refine wpAny_setField ((Heap.get?_update_other _ _ (Ne.symm ne)).trans (Heap.get?_push_size h1 rfl)) rfl z ?_
 exact h _ (W z).1 (W z).2
theorem firstD{base:Heap}{env:Env}{outer:List Env}{L e:Addr}{oe:Obj}{vs:Array Value}{a0:Value}{Q:Unit->Shared->Prop}
  (hfr:A.frames=some (env::outer)) (hl:s.heap.FunFrames base (env::outer)) (hf:env.frame=some L) (he:s.heap.get? e=some oe)
  (hkb:base.StaysIn s.heap) (hen:base.get? e=none) (hd:oe.data=.fields vs) (hn:vs[1]?=some .none) (hv:vs[0]?=some a0)
  (h:∀h',Heap.LeftW base (env::outer) e oe.cls a0 s.heap h'->DAt h' e oe.dict->Q () {s with heap:=h' }):wpAny M A (leaving env (.ref e)) Q E s:=by
 unfold leaving noteFrame
 rw[hf]
 refine wpAny_bind (wpAny_bind (wpAny_field he hd hn ?_))
 rw[if_neg (by decide)]
 exact entryD hfr hl hf he hkb hen hd (Array.getElem?_eq_some_iff.mp hn).1 hv h
theorem nextD{base:Heap}{env:Env}{outer:List Env}{L e:Addr}{cls a0:Value}{d:Option Addr}{Q:Unit->Shared->Prop}
  (hfr:A.frames=some (env::outer)) (hf:env.frame=some L) (fl:Heap.FlyingW base (env::outer) e cls a0 s.heap) (da:DAt s.heap e d)
  (hQ:∀h',Heap.FlyingW base outer e cls a0 h'->s.heap.UpToSlots h'->DAt h' e d->Q () {s with heap:=h' }):wpAny M A (leaving env (.ref e)) Q E s:=by
 obtain⟨hkb,hen,hl,oe,vs,tr,ot,ts,he,⟨rfl,hv⟩,hd,hn,hnt,hte,ht,hdt,h3⟩:=fl
 obtain⟨o,q,rfl⟩:=da
 rw[he]at q
 cases q
 unfold leaving noteFrame
 rw[hf]
 refine wpAny_bind (wpAny_bind (wpAny_field he hd hn ?_))
 rw[if_pos (by simp)]
 refine wpAny_bind (wpAny_field ht hdt h3 ?_)
 rw[if_neg (by simp[rawInt])]
 refine wpAny_bind (wpAny_setField ht hdt (Array.getElem?_eq_some_iff.mp h3).1 ?_)
 have oth:∀b,b≠tr->(s.heap.update tr (Obj.mapFields (·.setIfInBounds 3 .none))).get? b=s.heap.get? b:=fun b n=>Heap.get?_update_other _ _ (Ne.symm n)
 have nr:∀b o,s.heap.get? b=some o->(∀us,o.data ≠ .fields us)->b≠tr:=by
  rintro b o q n rfl
  rw[ht]at q
  cases q
  exact n ts hdt
 refine entryD hfr (hl.of_keeps fun b o q n=>⟨o,(oth b (nr b o q n)).trans q,rfl⟩) hf ((oth e (Ne.symm hte)).trans he) (fun b o q=>(oth b (by rintro rfl;rw[hnt]at q;cases q)).trans (hkb b o q)) hen hd (Array.getElem?_eq_some_iff.mp hn).1 hv fun h' x y=>?_
 obtain⟨k1,⟨_,_,k2⟩,k3,k4⟩:=x
 exact hQ h' ⟨k1,hen,k2,k3⟩ (fun b o q n=>k4 b o ((oth b (nr b o q n)).trans q) n) y
theorem one_write{base h0 h1:Heap}{l:List Env}{e:Addr}{oe tb:Obj}{vs ts:Array Value}{a0 fl:Value}
  (hl:h0.FunFrames base l) (he:h0.get? e=some oe) (hkb:base.StaysIn h0) (hen:base.get? e=none) (hd:oe.data=.fields vs) (hsz:1 < vs.size) (hv:vs[0]?=some a0)
  (S1:Heap.SlotsOnly (l.filterMap (·.frame)) h0 h1) (htb:tb.data=.fields ts) (h3:ts[3]?=some fl) :
  Heap.NotedW base l e oe.cls a0 fl h0 ((h1.push tb).update e (Obj.mapFields (·.setIfInBounds 1 (.ref h1.objs.size)))) ∧
   DAt ((h1.push tb).update e (Obj.mapFields (·.setIfInBounds 1 (.ref h1.objs.size)))) e oe.dict:=by
 have eN:e∉l.filterMap (·.frame):=by
  intro m
  obtain⟨_,o,q,n⟩:=hl.mem m
  rw[he]at q
  cases q
  exact n vs hd
 have e1:h1.get? e=some oe:=by rw[S1.2.1 e eN];exact he
 have ne:h1.objs.size≠e:=Nat.ne_of_gt (Heap.lt_size e1)
 have d3:=Obj.data_mapFields hd (·.setIfInBounds 1 (Value.ref h1.objs.size))
 have e2:=Heap.get?_update_self (Obj.mapFields (·.setIfInBounds 1 (Value.ref h1.objs.size))) (Heap.get?_push_of_some tb e1) (Obj.isFreed_of_fields d3)
 have t1:((h1.push tb).update e (Obj.mapFields (·.setIfInBounds 1 (Value.ref h1.objs.size)))).get? h1.objs.size=some tb:=by
  rw[Heap.get?_update_other _ _ (Ne.symm ne)]
  exact Heap.get?_push_size h1 (Obj.isFreed_of_fields htb)
 have rest:∀b o,b≠e->h1.get? b=some o->((h1.push tb).update e (Obj.mapFields (·.setIfInBounds 1 (Value.ref h1.objs.size)))).get? b=some o:=by
  intro b o n q
  rw[Heap.get?_update_other _ _ (Ne.symm n)]
  exact Heap.get?_push_of_some _ q
 have inb:∀b o,base.get? b=some o->h1.get? b=some o:=by
  intro b o q
  rw[S1.2.1 b (by intro m;rw[(hl.mem m).1]at q;cases q)]
  exact hkb b o q
 have nr:∀b o,h0.get? b=some o->(∀us,o.data ≠ .fields us)->b≠e:=by
  rintro b o q n rfl
  rw[he]at q
  cases q
  exact n vs hd
 refine⟨⟨fun b o q=>rest b o (by rintro rfl;rw[hen]at q;cases q) (inb b o q),hl.of_keeps fun b o q n=>?_,?_,fun b o q n=>?_⟩,_,e2,dict_fields _ _⟩
 ·obtain⟨sl,z⟩:=S1.2.2 b o q
  exact⟨_,rest b _ (nr b o q n) z,rfl⟩
 ·refine⟨_,_,h1.objs.size,_,_,e2,⟨Obj.cls_mapFields _ _,?_⟩,d3,?_,?_,ne,t1,htb,h3⟩
  ·rw[Array.getElem?_setIfInBounds_ne (by decide)]
   exact hv
  ·simp[hsz]
  ·exact Heap.StaysIn.fresh inb
 ·obtain⟨sl,z⟩:=S1.2.2 b o q
  exact⟨sl,rest b _ (nr b o q n) z⟩
theorem noteD{base:Heap}{env:Env}{outer:List Env}{L e:Addr}{cls a0:Value}{d:Option Addr}{Q:Unit->Shared->Prop}
  (hfr:A.frames=some (env::outer)) (hf:env.frame=some L) (fl:Heap.FlyingW base (env::outer) e cls a0 s.heap) (da:DAt s.heap e d)
  (hQ:∀h',Heap.HeldW base (env::outer) e cls a0 L h'->s.heap.UpToSlots h'->DAt h' e d->Q () {s with heap:=h' }):wpAny M A (noteFrame (.ref e) env) Q E s:=by
 obtain⟨hkb,hen,hl,oe,vs,tr,ot,ts,he,⟨rfl,hv⟩,hd,hn,hnt,hte,ht,hdt,h3⟩:=fl
 obtain⟨o,q,rfl⟩:=da
 rw[he]at q
 cases q
 unfold noteFrame
 rw[hf]
 refine wpAny_bind (wpAny_field he hd hn ?_)
 rw[if_pos (by simp)]
 refine wpAny_bind (wpAny_field ht hdt h3 ?_)
 rw[if_neg (by simp[rawInt])]
 refine wpAny_bind (wpAny_setField ht hdt (Array.getElem?_eq_some_iff.mp h3).1 ?_)
 obtain⟨h0,hh0⟩:∃h0,h0=s.heap.update tr (Obj.mapFields (·.setIfInBounds 3 .none)):=⟨_,rfl⟩
 have oth:∀b,b≠tr->h0.get? b=s.heap.get? b:=fun b n=>by rw[hh0];exact Heap.get?_update_other _ _ (Ne.symm n)
 have nr:∀b o,s.heap.get? b=some o->(∀us,o.data ≠ .fields us)->b≠tr:=by
  rintro b o q n rfl
  rw[ht]at q
  cases q
  exact n ts hdt
 rw[← hh0]
 have hl0:h0.FunFrames base (env::outer):=hl.of_keeps fun b o q n=>⟨o,(oth b (nr b o q n)).trans q,rfl⟩
 have he0:h0.get? e=some oe:=(oth e (Ne.symm hte)).trans he
 refine wpAny_bind (wpAny_frameOf_fun (s:={s with heap:=h0}) hfr hl0 hf fun h1 S1=>wpAny_bind (wpAny_entryPlaceOf fun pl hp=>?_))
 unfold EntryCells.newEntry newFields
 refine wpAny_bind (wpAny_newObj_type ?_ (hp.sizeOk5 _ _ _ _ _))
 have eN:e∉(env::outer).filterMap (·.frame):=by
  intro m
  obtain⟨_,o,q,n⟩:=hl0.mem m
  rw[he0]at q
  cases q
  exact n vs hd
 have e1:h1.get? e=some oe:=by rw[S1.2.1 e eN];exact he0
 refine wpAny_setField (Heap.get?_push_of_some _ e1) hd (Array.getElem?_eq_some_iff.mp hn).1 ?_
 have W:=one_write (tb:={cls:=.type "traceback", dict:=none,data:=.fields ([.ref tr,.ref L,.none,rawInt L,.none]++(if pl.isEmpty then List.replicate 6 Value.none else pl)).toArray}) hl0 he0 (fun b o q=>(oth b (by rintro rfl;rw[hnt]at q;cases q)).trans (hkb b o q)) hen hd (Array.getElem?_eq_some_iff.mp hn).1 hv S1 rfl (fl:=rawInt L) (by rfl)
 obtain⟨⟨k1,k2,k3,k4⟩,k5⟩:=W
 exact hQ _ ⟨k1,hen,k2,k3⟩ (fun b o q n=>k4 b o ((oth b (nr b o q n)).trans q) n) k5
theorem landD{base:Heap}{l:List Env}{e:Addr}{cls a0 fl:Value}{d:Option Addr}{Q:Unit->Shared->Prop}(hkb:base.StaysIn s.heap)(hen:base.get? e=none)(hl:s.heap.FunFrames base l)(tr:s.heap.TracedAtW base e cls a0 fl)(da:DAt s.heap e d)
  (hQ:∀h',Heap.FlyingW base l e cls a0 h'->s.heap.UpToSlots h'->DAt h' e d->Q () {s with heap:=h' }):wpAny M A (setFlight (.ref e) none) Q E s:=by
 obtain⟨oe,vs,t,oT,ts,he,hcls,hd,h1,hnT,hTe,hT,hdT,h3⟩:=tr
 obtain⟨o,q,rfl⟩:=da
 rw[he]at q
 cases q
 have hsz3:3 < ts.size:=(Array.getElem?_eq_some_iff.mp h3).1
 have oth:∀b,b≠t->(s.heap.update t (Obj.mapFields (·.setIfInBounds 3 ((none:Option Addr).elim Value.none fun f=>rawInt f)))).get? b=s.heap.get? b:=fun b n=>Heap.get?_update_other _ _ (Ne.symm n)
 have nr:∀b o,s.heap.get? b=some o->(∀us,o.data ≠ .fields us)->b≠t:=by
  rintro b o q n rfl
  rw[hT]at q
  cases q
  exact n ts hdT
 unfold setFlight
 refine wpAny_bind (wpAny_field he hd h1 ?_)
 rw[if_pos (by simp)]
 have e2:=(oth e (Ne.symm hTe)).trans he
 refine wpAny_setField hT hdT hsz3 (hQ _ ⟨fun b o q=>(oth b (by rintro rfl;rw[hnT]at q;cases q)).trans (hkb b o q),hen,hl.of_keeps fun b o q n=>⟨o,(oth b (nr b o q n)).trans q,rfl⟩,?_⟩ (fun b o q n=>⟨o.slots,(oth b (nr b o q n)).trans q⟩) ⟨oe,e2,rfl⟩)
 exact⟨oe,vs,t,_,_,e2,hcls,hd,h1,hnT,hTe,Heap.get?_update_self _ hT (Obj.isFreed_of_fields (Obj.data_mapFields hdT _)),Obj.data_mapFields hdT _,by simp[hsz3]⟩
end
section
variable {P:Program} {w:World} {A:Around} {E:Value->Shared->Prop} {h:Heap} {g:Array GenState} {d:Drawn} {t:Nat} {os:OsState}
variable {nm q:Str} {C N fI:Addr} {bs bm bB:List Value} {hd ab:Bool} {sn:List Str} {sub:List Value} {col:Option Bool} {dd:Option Addr} {k0 k1 k2 k3 k5:Option Value} {B nid iid:String} {mN:Str->Option Value} {oI:Obj} {rest:List Value}
theorem tcall_own(F:ExcBaseFacts B nid iid bB)(hB:bB.contains (.type B)=true)(TT:OwnTail h bB bm){Q:Fin->Shared->Prop}
  (hC:h.get? C=some (excClassObj nm q C N bs bm hd sn sub ab col dd k0 k1 k2 k3 k5 nid)) (hN:h.Ns N mN) (hi:mN "__init__" = some (.ref fI)) (hf:h.get? fI=some oI) (hc:oI.cls=.type "function")
  (hq:∀h' e,Heap.MadeExcOf h h' e (.ref C) rest->h.objs.size<=e->wpAny (model P w) A (call (.ref fI) (.ref e::rest)) (fun r s'=>r=.none/\Q (.done (.ret (.ref e))) s') E ⟨h',g,d,t,os⟩)
  (hr:rest.length<=sizeLine):wpAny (model P w) A (Builtin.«type.__call__» ⟨.ref C::rest,[]⟩) Q E ⟨h,g,d,t,os⟩:=by
 repeat (first|with_reducible refine wpAny_loadPart_at hC ?_|with_reducible refine wpAny_madeBy_exc hC ?_|wp_step)
 refine codeAny_call_builtin_code (Code.quiet_builtin _ F.quiet) (wpAny_check_new_subU F hB TT hC (codeAny_exc_new_subU F hB F TT hC ?_ hr))
 show wpAny _ _ _ _ _ _
 have up:∀b o,h.get? b=some o->((h.push {cls:=.type "tuple", data:=.seq rest.toArray}).push {cls:=.ref C,data:=.fields #[.ref h.objs.size,.none,.none,.none,.bool false,.none]}).get? b=some o:=fun b o z=>Heap.get?_push_of_some _ (Heap.get?_push_of_some _ z)
 have at1:((h.push {cls:=.type "tuple", data:=.seq rest.toArray}).push {cls:=.ref C,data:=.fields #[.ref h.objs.size,.none,.none,.none,.bool false,.none]}).get? (h.objs.size + 1)=some {cls:=.ref C,data:=.fields #[.ref h.objs.size,.none,.none,.none,.bool false,.none]}:=by heap_get
 have self:(Value.ref C::bm).contains (.ref C)=true:=by simp
 have hC1:=up _ _ hC
 unfold isInstance
 repeat (first|with_reducible refine wpAny_loadPart_at at1 ?_|(with_reducible refine wpAny_isSubtype_exc hC1 ?_;rw[self])|wp_step)
 show wpAny _ _ (typeLookup (.ref C) _) _ _ _
 refine wpAny_typeLookup_tail hC1 (hN.keeps up) (TT.keeps up) F.mroIs F.init.lookup ?_
 rw[hi]
 refine wpAny_holding (wpAny_bind ?_)
 unfold bindSpecial
 refine wpAny_bind (wpAny_typeOf (T := "function") ⟨_,up _ _ hf,hc⟩ ?_)
 rw[if_pos (by decide)]
 have mk:Heap.MadeExcOf h ((h.push {cls:=.type "tuple", data:=.seq rest.toArray}).push {cls:=.ref C,data:=.fields #[.ref h.objs.size,.none,.none,.none,.bool false,.none]}) (h.objs.size + 1) (.ref C) rest :=
  ⟨up,Heap.get?_none_of_le (Nat.le_succ _),h.objs.size,at1,Heap.get?_none_of_le (Nat.le_refl _),Heap.get?_push_of_some _ (Heap.get?_push_at rfl rfl)⟩
 refine wpAny_pure (wpAny_bind (wpAny_mono (hq _ _ mk (Nat.le_succ _)) (fun r s' z=>?_) fun _ _ z=>z))
 obtain⟨rfl,z⟩:=z
 wp_walk
 exact z
theorem call_own(F:ExcBaseFacts B nid iid bB)(hB:bB.contains (.type B)=true)(TT:OwnTail h bB bm){Q:Value->Shared->Prop}
  (hC:h.get? C=some (excClassObj nm q C N bs bm hd sn sub ab col dd k0 k1 k2 k3 k5 nid)) (hN:h.Ns N mN) (hi:mN "__init__" = some (.ref fI)) (hf:h.get? fI=some oI) (hc:oI.cls=.type "function")
  (hq:∀h' e,Heap.MadeExcOf h h' e (.ref C) rest->h.objs.size<=e->wpAny (model P w) (A.under (.builtin "type.__call__" ⟨.ref C::rest,[]⟩)) (call (.ref fI) (.ref e::rest)) (fun r s'=>r=.none/\Q (.ref e) s') E ⟨h',g,d,t,os⟩)
  (hr:rest.length<=sizeLine):wpAny (model P w) A (call (.ref C) rest) Q E ⟨h,g,d,t,os⟩:=by
 have z1:=tc_lookup
 have z2:=tc_bind (.ref C)
 have z3:(⟨h,g,d,t,os⟩:Shared).TypeIs (.ref C) "type" := ⟨_,hC,rfl⟩
 refine wpAny_call (codeAny_of_tree ?_)
 show wpAny _ _ (callAny (.ref C) _) _ _ _
 repeat (any_goals (first|assumption|with_reducible refine wpAny_loadPart_at hC ?_|wp_step))
 exact⟨rfl,codeAny_call_builtin_at (Code.quiet_builtin _ (by decide +kernel)) entry_typeCall (wpAny_check_type_call_sub hC (tcall_own F hB TT hC hN hi hf hc (fun h' e m l=>hq h' e m l) hr))⟩
end
section
variable {P:Program} {w:World} {A:Around} {E:Value->Shared->Prop} {s:Shared} {env:Env} {M:Model}
variable {nm q:Str} {C N fI:Addr} {bs bm bB:List Value} {hd ab:Bool} {sn:List Str} {sub:List Value} {col:Option Bool} {dd:Option Addr} {k0 k1 k2 k3 k5:Option Value} {B nid iid:String} {mN:Str->Option Value} {oI:Obj}
abbrev excObj(C:Addr)(a0:Value)(dx:Option Addr):Obj:={cls:=.ref C,dict:=dx,data:=.fields #[a0,.none,.none,.none,.bool false,.none]}
theorem raise_made{x:Sem Value}{Q:Flow->Shared->Prop} (hb:bm.contains (.type "BaseException")=true) (hh:A.handled=none)
  (h:wpAny M A x (fun v s1=>∃e a0 dx,v=.ref e/\s1.heap.get? C=some (excClassObj nm q C N bs bm hd sn sub ab col dd k0 k1 k2 k3 k5 nid)/\s1.heap.get? e=some (excObj C a0 dx)/\E (.ref e) s1) E s) :
  wpAny M A (raiseStmt env (some x) none) Q E s:=by
 have hcB:(Value.ref C::bm).contains (.type "BaseException")=true:=by rw[List.contains_cons,hb,Bool.or_true]
 unfold raiseStmt
 refine wpAny_bind (wpAny_mono h (fun v s1 z=>?_) fun _ _ z=>z)
 obtain⟨e,a0,dx,rfl,hC,he,hE⟩:=z
 obtain⟨hp,g,d,tk,os⟩:=s1
 repeat (first|with_reducible refine wpAny_loadPart_at he ?_|with_reducible refine wpAny_loadPart_at hC ?_|(with_reducible refine wpAny_isSubtype_exc hC ?_;rw[hcB])|wp_step)
 exact wpAny_raiseNew_none hh hE
theorem raise_own(F:ExcBaseFacts B nid iid bB)(hB:bB.contains (.type B)=true){x:Str}{np cpos pos:Pos}{args:List Expr}{Q:Flow->Shared->Prop}
  (hb:bm.contains (.type "BaseException")=true) (hh:A.handled=none) (hpl:(backTo cpos (starEach args env)).any (·.1)=false) (hi:mN "__init__" = some (.ref fI)) (hc:oI.cls=.type "function")
  (h : wpAny (model P w) A (eval (.Name x np) env) (fun f s1=>f=.ref C/\wpAny (model P w) A (evalArgs (.ref C) true (backTo cpos (starEach args env)) [])
   (fun a s2=>a.kw=[]/\a.pos.length<=sizeLine/\s2.heap.get? C=some (excClassObj nm q C N bs bm hd sn sub ab col dd k0 k1 k2 k3 k5 nid)/\s2.heap.Ns N mN/\s2.heap.get? fI=some oI/\OwnTail s2.heap bB bm ∧
    ∀h' e,Heap.MadeExcOf s2.heap h' e (.ref C) a.pos->s2.heap.objs.size<=e->wpAny (model P w) (A.under (.builtin "type.__call__" ⟨.ref C::a.pos,[]⟩)) (call (.ref fI) (.ref e::a.pos))
     (fun r s'=>r=.none/\s'.heap.get? C=some (excClassObj nm q C N bs bm hd sn sub ab col dd k0 k1 k2 k3 k5 nid)/\(∃a0 dx,s'.heap.get? e=some (excObj C a0 dx))/\E (.ref e) s') E {s2 with heap:=h' }) E s1) E s) :
  wpAny (model P w) A (exec (.Raise (some (.Call (.Name x np) args [] cpos)) none pos) env) Q E s:=by
 rw[arm_exec_Raise]
 have z:wpAny (model P w) A (eval (.Call (.Name x np) args [] cpos) env) (fun v s1=>∃e a0 dx,v=.ref e/\s1.heap.get? C=some (excClassObj nm q C N bs bm hd sn sub ab col dd k0 k1 k2 k3 k5 nid)/\s1.heap.get? e=some (excObj C a0 dx)/\E (.ref e) s1) E s:=by
  refine wpAny_Call_ofName (wpAny_mono h (fun f s1 y=>?_) fun _ _ y=>y)
  obtain⟨rfl,y⟩:=y
  unfold callWith
  refine wpAny_bind (wpAny_holding (wpAny_mono y (fun a s2 y=>wpAny_bind (wpAny_standAt ?_)) fun _ _ y=>y))
  obtain⟨apos,akw⟩:=a
  obtain⟨hkw,hlen,hC,hN,hf,TT,y⟩:=y
  obtain rfl:akw=[]:=hkw
  obtain⟨hp,g,d,tk,os⟩:=s2
  simp only[hpl]
  refine wpAny_bind (wpAny_keeperOf_exc hC (wpAny_bind (call_own F hB TT hC hN hi hf hc (fun h' e m l=>wpAny_mono (y h' e m l) (fun r s' y=>⟨y.1,wpAny_bind (wpAny_holding (wpAny_point (wpAny_pure ?_)))⟩) fun _ _ y=>y) hlen)))
  obtain⟨_,hC',⟨a0,dx,he⟩,hE⟩:=y
  exact⟨e,a0,dx,rfl,hC',he,hE⟩
 first
  | exact wpAny_bind (wpAny_standAt (raise_made hb hh (wpAny_bind (wpAny_mono z (fun v s3 y=>wpAny_bind (wpAny_standAt (wpAny_pure y))) fun _ _ y=>y))))
  | (simp only[evalOpt,Option.map];exact wpAny_bind (wpAny_standAt (raise_made hb hh (wpAny_bind (wpAny_mono z (fun v s3 y=>wpAny_bind (wpAny_standAt (wpAny_pure y))) fun _ _ y=>y)))))
end
open Builtin Builtin.ObjectAttr
section
variable {P:Program} {w:World} {A:Around} {E:Value->Shared->Prop} {s:Shared} {K:PySem.W.Frag} {x C:Addr} {ox:Obj} {name:Str} {v:Value} {cd:ClassData} {rs:List Addr}
abbrev mroVE:List Value:=[.type "ValueError", .type "Exception", .type "BaseException", .type "object"]
theorem refuse_refs(self:Value):∀rs:List Addr,refuseLoop self "__setattr__" (rs.map Value.ref++mroVE)=pure ()
 | []=>PySem.F.store_ValueError.passes self
 | c::r=>by rw[List.map_cons,List.cons_append,refuseLoop_ref];exact refuse_refs self r
theorem inst_new{a0:Value}(hx:s.heap.get? x=some (excObj C a0 none)):PySem.W.InstAt s.heap x (excObj C a0 none) C none:=⟨hx,rfl,rfl,trivial⟩
theorem osa_exc{R:Result->Shared->Prop}{tk:Tok}{a0:Value}(X:K.In s.heap)(hx:s.heap.get? x=some (excObj C a0 none))
  (hna:PySem.W.findIn K (.ref C) name=some none) (hc:PySem.W.clsIn K C=some cd) (hm:cd.mro=rs.map Value.ref++mroVE) (hh:cd.hasDict=true)
  (h:∀h' t',h'.get? x=some (excObj C a0 (some s.heap.objs.size))->h'.Ns1 s.heap.objs.size (fun y=>if y=name then some v else none)->(∀b o,b≠x->s.heap.get? b=some o->h'.get? b=some o)->R (.ok (.ret .none)) {s with heap:=h',toks:=t' }) :
  codeAny (model P w) A (.call (.builtin "object.__setattr__") ⟨[.ref x,.str name tk,v],[]⟩) R s:=by
 have SF:=PySem.F.store_object
 have I:=inst_new hx
 have ne:cd.mro.isEmpty=false:=by rw[hm];cases rs<;>rfl
 have has:cd.mro.contains (.type "object")=true:=by rw[hm];simp
 have sub:PySem.W.Looks (model P w) s.heap (isInstance (.ref x) (.type "object")) true:=I.type.andThen (PySem.W.looks_mroIn X (by unfold PySem.W.mroIn;rw[hc,Option.bind_some,if_neg (by rw[ne];decide),has]))
 refine codeAny_call_builtin SF.slot.plain SF.entry (@PySem.W.check_slot (model P w) _ _ s "object.__setattr__" "object" "__setattr__" (.ref x) [.str name tk,v] [] _ SF.kind SF.split sub (SF.args (.ref x) (.str name tk) v) ?_)
 have hmr:PySem.W.Looks (model P w) s.heap (mroOf (.ref C)) cd.mro:=(PySem.W.looks_clsIn X hc).andThen .now
 rw[PySem.W.osa_eq,refuse_eq]
 refine wpAny_bind (wpAny_bind (I.type.here (wpAny_bind (hmr.here ?_))))
 rw[hm,refuse_refs]
 refine wpAny_pure (wpAny_bind (I.type.here (wpAny_bind ((PySem.W.looks_findIn X hna).here (wpAny_bind (wpAny_pure ?_))))))
 dsimp only
 unfold storeInOwnDict
 refine wpAny_bind (wpAny_pure ?_)
 show wpAny _ _ (if (Value.ref C==Value.type "module")=true then _ else _) _ _ _
 rw[if_neg (by simp)]
 refine wpAny_bind ?_
 show wpAny _ _ (instanceDict x true) _ _ _
 unfold instanceDict
 refine wpAny_bind (wpAny_loadPart hx ?_)
 dsimp only
 refine wpAny_bind ((PySem.W.looks_clsIn X hc).here ?_)
 rw[hh,if_neg (by decide),if_neg (by simp[typeHasDict])]
 have ns:x≠s.heap.objs.size:=Nat.ne_of_lt (Heap.lt_size hx)
 have hx1:(s.heap.push {cls:=.type "dict", data:=.dict #[]}).get? x=some (excObj C a0 none):=Heap.get?_push_of_some _ hx
 have at1:=Heap.get?_update_self (fun o:Obj=>{cls:=o.cls,dict:=some s.heap.objs.size,data:=o.data,slots:=o.slots}) hx1 rfl
 have dat:((s.heap.push {cls:=.type "dict", data:=.dict #[]}).update x fun o=>{cls:=o.cls,dict:=some s.heap.objs.size,data:=o.data,slots:=o.slots}).get? s.heap.objs.size=some {cls:=.type "dict", data:=.dict #[]} :=
  (Heap.get?_update_other _ _ ns).trans (Heap.get?_push_size _ rfl)
 refine wpAny_bind (wpAny_alloc (wpAny_bind (wpAny_update hx1 ?_)))
 refine wpAny_pure ?_
 show wpAny _ _ (storeInDict s.heap.objs.size (.str name tk) name v) _ _ _
 unfold storeInDict newKeyGuard
 refine wpAny_bind (wpAny_pure (wpAny_bind (wpAny_nsSet1 (m:=fun _=>none) (Heap.Ns1.of_empty ⟨_,#[],_,dat,rfl,fun _ z=>absurd z (by simp),fun _=>rfl⟩) fun h' n1 sb=>?_)))
 obtain⟨oD,es,ep,e1,e2,e3⟩:=n1.count (Within.cons name v Within.nil)
 refine wpAny_bind (wpAny_lookBehind e1 (by rw[e2];exact pastItsLine_dict (Nat.le_trans e3 (by rw[List.length_cons,List.length_nil,sizeLine_eq];omega))) ?_)
 refine wpAny_pure ?_
 refine h h' _ ?_ n1 fun b o nb q=>?_
 ·exact(sb.2 x ns).trans at1
 ·exact(sb.2 b (Nat.ne_of_lt (Heap.lt_size q))).trans ((Heap.get?_update_other _ _ (Ne.symm nb)).trans (Heap.get?_push_of_some _ q))
theorem set_exc{Q:Unit->Shared->Prop}{a0:Value}(X:K.In s.heap)(hx:s.heap.get? x=some (excObj C a0 none)) (hs:PySem.W.findIn K (.ref C) "__setattr__" = some (some (.builtin "object.__setattr__")))
  (hna:PySem.W.findIn K (.ref C) name=some none) (hc:PySem.W.clsIn K C=some cd) (hm:cd.mro=rs.map Value.ref++mroVE) (hh:cd.hasDict=true)
  (h:∀h' t',h'.get? x=some (excObj C a0 (some s.heap.objs.size))->h'.Ns1 s.heap.objs.size (fun y=>if y=name then some v else none)->(∀b o,b≠x->s.heap.get? b=some o->h'.get? b=some o)->Q () {s with heap:=h',toks:=t' }) :
  wpAny (model P w) A (setAttr (.ref x) name v) Q E s :=
 PySem.W.set_plain X (inst_new hx) hs (osa_exc (s:={s with toks:=s.toks + 1}) X hx hna hc hm hh h)
end
section
variable {P:Program} {w:World} {A:Around} {E:Value->Shared->Prop} {s:Shared} {K:PySem.W.Frag} {x C:Addr} {ox:Obj} {od:Option Obj} {name:Str} {v:Value} {cd:ClassData} {rs:List Addr}
theorem slot_ga:PySem.Slot "ValueError" "__getattribute__" "BaseException.__getattribute__" := PySem.F.excAttr_ValueError.ga
theorem get_exc{Q:Value->Shared->Prop}{expr:Bool}(X:K.In s.heap)(I:PySem.W.InstAt s.heap x ox C od) (hga:PySem.W.findIn K (.ref C) "__getattribute__" = some (some (.builtin "BaseException.__getattribute__")))
  (hk:PySem.W.findIn K (.ref C) "__getattr__" = some none) (hc:PySem.W.clsIn K C=some cd) (hm:cd.mro=rs.map Value.ref++mroVE) (hf:PySem.W.findObj K C od name=some (.value v)) (hh:PySem.W.handedIn v=true)
  (h:Q v {s with toks:=s.toks + 1}):wpAny (model P w) A (getAttr (.ref x) name expr) Q E s:=by
 have ht:PySem.W.Looks (model P w) s.heap (typeOf (.ref x)) (.ref C):=I.type
 have ne:cd.mro.isEmpty=false:=by rw[hm];cases rs<;>rfl
 have has:cd.mro.contains (.type "BaseException")=true:=by rw[hm];simp
 have sub:PySem.W.Looks (model P w) s.heap (isInstance (.ref x) (.type "BaseException")) true:=I.type.andThen (PySem.W.looks_mroIn X (by unfold PySem.W.mroIn;rw[hc,Option.bind_some,if_neg (by rw[ne];decide),has]))
 have hb:PySem.W.Looks (model P w) s.heap (hookBefore (.ref C)) none:=PySem.W.looks_hook X (by rw[show onTheHeap (Value.ref C)=true from rfl,if_pos rfl];exact hk)
 have lf:=PySem.W.looks_find (M:=model P w) X I hf
 refine wpAny_bind (wpAny_mkText (wpAny_holding (wpAny_bind (ht _ _ _ _ (fun _ _ e=>e) (wpAny_bind (PySem.W.looks_findIn X hga _ _ _ _ (fun _ _ e=>e) ?_))))))
 dsimp only
 rw[show (onTheHeap (.ref C)&&Value.builtin "BaseException.__getattribute__" == Value.builtin "object.__getattribute__")=false from by rw[show (Value.builtin "BaseException.__getattribute__" == Value.builtin "object.__getattribute__")=false from by decide +kernel,Bool.and_false],if_neg (by decide)]
 refine wpAny_bind (hb _ _ _ _ (fun _ _ e=>e) (wpAny_bind (wpAny_attempt (wpAny_holding ?_))))
 unfold callGetattribute
 rw[show (expr&&onTheHeap (Value.builtin "BaseException.__getattribute__"))=false from Bool.and_false _,if_neg (by decide)]
 unfold boundAndCalled
 rw[slot_ga.bind]
 refine wpAny_bind (wpAny_pure ?_)
 show wpAny _ _ (call (.builtin "BaseException.__getattribute__") [.ref x,.str name s.toks]) _ _ _
 refine wpAny_call (codeAny_call_builtin slot_ga.plain PySem.F.entry_bexc_ga ?_)
 refine @PySem.W.check_slot (model P w) _ _ {s with toks:=s.toks + 1} "BaseException.__getattribute__" "BaseException" "__getattribute__" (.ref x) [.str name s.toks] [] _ (by decide +kernel) (by decide +kernel) sub (PySem.F.args_bexc_ga (.ref x) (.str name s.toks)) ?_
 refine wpAny_bind (wpAny_pure (wpAny_bind (wpAny_pure (wpAny_bind (ht _ _ _ _ (fun _ _ e=>e) (wpAny_bind (lf _ _ _ _ (fun _ _ e=>e) (wpAny_pure ?_))))))))
 show wpAny _ _ (handedOut v) _ _ _
 rw[PySem.W.handedOut_of hh]
 exact wpAny_pure h
end
section
variable {P:Program} {w:World} {A:Around} {E:Value->Shared->Prop} {h:Heap} {g:Array GenState} {d:Drawn} {t:Nat} {os:OsState}
variable {nm q:Str} {C N e t0:Addr} {bs bm bB:List Value} {hd ab:Bool} {sn:List Str} {sub:List Value} {col:Option Bool} {dd:Option Addr} {k0 k1 k2 k3 k5:Option Value} {B nid iid:String} {u:Value}
theorem init_call(F:ExcBaseFacts B nid iid bB)(TT:OwnTail h bB bm){Q:Value->Shared->Prop}(hC:h.get? C=some (excClassObj nm q C N bs bm hd sn sub ab col dd k0 k1 k2 k3 k5 nid))(he:h.get? e=some (excObj C (.ref t0) none))
  (hq:∀h',h'.get? e=some (excObj C (.ref h.objs.size) none)->(∀b o,b≠e->h.get? b=some o->h'.get? b=some o)->Q .none ⟨h',g,d,t,os⟩) :
  wpAny (model P w) A (call (.builtin iid) [.ref e,u]) Q E ⟨h,g,d,t,os⟩:=by
 refine wpAny_call (codeAny_call_builtin F.init.plain F.initEntry (wpAny_check_init_subU F TT hC he rfl ?_))
 wp_walk
 have e1:(h.push {cls:=.type "tuple", data:=.seq #[u]}).get? e=some (excObj C (.ref t0) none):=Heap.get?_push_of_some _ he
 refine hq _ (Heap.get?_update_self _ e1 rfl) fun b o n z=>?_
 exact(Heap.get?_update_other _ _ (Ne.symm n)).trans (Heap.get?_push_of_some _ z)
end
section
variable {X:Cx} {pins:List (Addr×Obj)} {σ:St} {H H':Hp} {s s':Shared} {e:Addr} {oe:Obj}
abbrev opCx(X:Cx)(e:Addr):Cx:={X with ex:=[e],xe:=fun _ _=>False}
theorem Inv.openE(I:Inv X [] σ H s)(hex:X.ex=[])(hpn:X.pn=[])(hfn:∀x,X.fn x=true)(h0:X.s₀.heap.get? e=some oe)(hs:s.heap.get? e=some oe)(hb:X.base.get? e=none)(hH:H e=none)(hfs:e∉X.fs)
  (hdc:∀v,oe.data ≠ .cell v):Inv (opCx X e) [(e,oe)] σ H s:=by
 have lt:=Heap.lt_size h0
 have nl:e≠X.env.locals:=Nat.ne_of_lt (Nat.lt_of_lt_of_le lt I.ok.above)
 have nx:∀b:Addr,b∉X.ex:=fun b=>by rw[hex];simp
 have ok:=I.ok
 refine⟨⟨ok.mod,ok.kind,ok.glob,ok.blt,ok.above,ok.inj,ok.has,ok.cab,ok.hd,ok.frames,ok.stk,fun b z=>?_,ok.bs,ok.bsz,fun b o q z=>?_,fun b z=>?_,ok.funs,ok.frf⟩,I.os,I.bare,
  ⟨fun b o q n hf _=>I.base.keep b o q n hf (nx b),fun b o q n hf _=>I.base.slot b o q n hf (nx b),fun b o q n _=>I.base.free b o q n (nx b),fun b o q _=>I.base.there b o q (nx b),I.base.tups,I.base.frzs,I.base.tbls⟩,
  I.loc,I.cell,I.free,I.freeC,fun p z=>?_,I.hok,I.len⟩
 ·obtain rfl:b=e:=List.mem_singleton.mp z
  exact⟨nl,fun x c q z=>by subst z;exact absurd (Nat.lt_of_lt_of_le lt (ok.cab x c (hfn x) q)) (Nat.lt_irrefl _)⟩
 ·obtain rfl:b=e:=List.mem_singleton.mp z
  rw[hb]at q
  cases q
 ·obtain rfl:b=e:=List.mem_singleton.mp z
  exact hfs
 ·have z:p∈X.pn++[(e,oe)]:=z
  rw[hpn,List.nil_append,List.mem_singleton]at z
  subst z
  exact⟨hs,hH,nl,hfs,hdc⟩
theorem Inv.made{C:Value}{us:List Value}{h1:Heap}(I:Inv X pins σ H s)(mk:Heap.MadeExcOf s.heap h1 e C us)(hl:s.heap.objs.size<=e)(ho:s'.os=s.os)(u:Un (frs X.stack) [e] H H' h1 s'.heap)(hok:HOk X.prog X.w H' s'.heap)(hg:AllBare s'.gens):Inv X pins σ H' s':=by
 have I1:Inv X pins σ H {s with heap:=h1,toks:=s.toks}:=I.kept mk.keeps
 refine I1.call' (ch:=[e]) ho u hok hg fun b z=>?_
 obtain rfl:b=e:=List.mem_singleton.mp z
 refine⟨.inr (Nat.le_trans I.sz hl),fun q=>?_,fun x c q z=>?_,fun p hp z=>?_⟩
 ·have:=I.lt
  rw[← q]at this
  exact absurd (Nat.lt_of_lt_of_le this hl) (Nat.lt_irrefl _)
 ·obtain⟨v,o,e1,_⟩:=I.cell x c q
  subst z
  exact absurd (Nat.lt_of_lt_of_le (Heap.lt_size e1) hl) (Nat.lt_irrefl _)
 ·have:=(I.pin p hp).1
  rw[z]at this
  exact absurd (Nat.lt_of_lt_of_le (Heap.lt_size this) hl) (Nat.lt_irrefl _)
end
section
theorem run_open{CX:CXT}{P:Program}{w:World}{K:PySem.W.Frag}{mg:Str->Option Value}{base:Heap}{k:Nat}{f e:Addr}{name qual:Str}{params:Arguments}{body:List Stmt}{scope:Scope}{dV kV doc pm cdv ct oc:Value}{an od:Option Addr}
  {osl:Array (Option Value)} {N ps:List Str} {A:Around} {outer:List Env} {s:Shared} {H:Hp} {args:Args} {us:List Value} {vs:List V} {E:XK} {oe:Obj} {R:Result->Shared->Prop}
  (lk:K.lookup f=some ⟨oc,od,.func (PySem.W.fnOf name qual params body scope dV kV doc pm an cdv ct),osl⟩) (hcd:PySem.W.codeIn K cdv qual=true) (S:FnScope N ps scope) (hr:Room (k + 1) A) (e0:Env0 P w K mg base A outer s H)
  (hb:BindsTo s (PySem.W.fnOf name qual params body scope dV kV doc pm an cdv ct) args (ps.zip us)) (r:Vals vs us) (hl:vs.length=ps.length) (he:s.heap.get? e=some oe) (hbe:base.get? e=none) (hHe:H e=none) (hfe:e∉frs outer) (hdc:∀v,oe.data ≠ .cell v)
  (hbody:∀s1,Inv (opCx (cxOf CX P w K mg base N qual scope f cdv A outer s H E) e) [(e,oe)] (start N vs) H s1 →
   wpAny (model P w) (A.deeper (envOfC qual scope s.heap.objs.size f cdv)) (execs body (envOfC qual scope s.heap.objs.size f cdv)) (fun fl s'=>fl=.next/\R (.ok (.ret .none)) s') (fun _ _=>False) s1) :
  codeAny (model P w) A (.call (.ref f) args) R s:=by
 have KX:K.In s.heap:=e0.mod.kin.keeps fun b o z=>(e0.bs b o z).1
 have lim:s.heap.NoLimit:=e0.mod.nolimit.keeps fun b o z=>(e0.bs b o z).1
 refine codeAny_call_function hr.depth (KX _ _ lk) rfl S.co S.gen rfl (PySem.W.codeRec_of KX hcd) (hb _ _ _ _ ?_)
 refine wpAny_newFunctionEnv_cells S.kind ?_ fun env hE s1 x=>?_
 ·rintro ⟨n,v⟩ hy
  rcases S.par n (List.of_mem_zip hy).1 with q|q
  ·exact .inl q
  ·exact .inr ⟨q,PySem.W.cellsFrom_some _ _ _ (.inl q)⟩
 subst hE
 refine⟨lim.keeps x.toInCall.keep,codeAny_func ?_⟩
 have I:Inv (cxOf CX P w K mg base N qual scope f cdv A outer s H E) [] (start N vs) H s1:=inv_start S hr.hd e0 hl r x
 have J:=Inv.openE (e:=e) I rfl rfl (fun _=>rfl) he (x.toInCall.keep _ _ he) hbe hHe hfe hdc
 refine wpAny_mono (hbody s1 J) (fun fl s' z=>?_) fun _ _ z=>z.elim
 obtain⟨rfl,z⟩:=z
 exact z
end
def txtV:V->Str
 | .int i=>Str.ofString (toString i)
 | .non => "None"
 | .str x=>reprText x
 | _=>Str.empty
def Says:V->Prop
 | .int i=>i.natAbs.log2 < 1920
 | .non=>True
 | .str x=>(reprText x).length<=sizeLine
 | _=>False
section
variable {P:Program} {w:World} {A:Around} {E:Value->Shared->Prop} {s:Shared} {env:Env} {value:Expr} {m:Str} {i:Int} {v:V} {j:Nat} {p1 p3 pos:Pos} {Q:Value->Shared->Prop}
theorem repr_any{u:Value}(sv:Says v)(r:RelV v u)(h:∀t tk,Q (.str (txtV v) t) {s with toks:=tk}):wpAny (model P w) A (pyReprObj u) Q E s:=by
 cases v with
 | int i =>
  obtain⟨t,rfl⟩:=r
  exact wpAny_pyReprObj_gives (hx:=int_text_fits sv) (typeIs_int _ i t) PySem.F.slot_int_repr PySem.F.entry_int_repr (PySem.F.args_int_repr_1 _) (gives_int_repr i t sv) (h _ _)
 | non =>
  obtain rfl:u=.none:=r
  exact wpAny_pyReprObj_gives (typeIs_none s) PySem.F.slot_NoneType_repr PySem.F.entry_NoneType_repr (PySem.F.args_NoneType_repr_1 _) gives_none_repr (h _ _) (hx:=by decide)
 | str x =>
  obtain⟨t,rfl⟩:=r
  exact wpAny_pyReprObj_gives (typeIs_str s x t) PySem.F.slot_str_repr PySem.F.entry_str_repr (PySem.F.args_str_repr_1 _) (gives_str_repr x t) (h _ _) (hx:=sv)
 | _=>exact sv.elim
theorem txt_fits(sv:Says v):(txtV v).length<=sizeLine:=by
 cases v with
 | int i=>exact int_text_fits sv
 | non=>exact by decide
 | str x=>exact sv
 | _=>exact sv.elim
theorem fstr_any(sv:Says v)(h1:(Str.empty++m).length<=sizeLine)(h2:(Str.empty++m++txtV v).length<=sizeLine)
  (hv:∀tk,wpAny (model P w) A (eval value env) (fun u s1=>RelV v u/\∀y t' tk,Q (.str y t') {s1 with toks:=tk}) E {s with toks:=tk}) :
  wpAny (model P w) A (eval (.JoinedStr [.Constant (.str m) j p1,.FormattedValue value 114 none p3] pos) env) Q E s:=by
 refine wpAny_JoinedStr ?_
 show wpAny _ _ (eval (.Constant (.str m) j p1) env) _ E s
 refine wpAny_Constant_str ⟨m,_,rfl,h1,?_⟩
 show wpAny _ _ (eval (.FormattedValue value 114 none p3) env) _ E _
 refine wpAny_FormattedValue_repr (wpAny_mono (hv _) (fun u s1 z=>?_) fun _ _ z=>z)
 obtain⟨r,z⟩:=z
 refine repr_any sv r fun t tk=>?_
 refine wpAny_formatField_str (hx:=txt_fits sv) ⟨_,_,rfl,h2,?_⟩ ⟨_,_,rfl,h2,?_⟩
 ·exact⟨h2,z _ _ _⟩
 ·exact⟨h2,z _ _ _⟩
end
section
variable {X:Cx} {σ:St} {H:Hp} {s:Shared} {e C:Addr} {a0:Value} {cd:ClassData} {rs:List Addr}
theorem Inv.wrote{oe:Obj}{h':Heap}{t':Nat}(I:Inv X [(e,oe)] σ H s)(hX:e∈X.ex)(hpn:X.pn=[])(k:∀b o,b≠e->s.heap.get? b=some o->h'.get? b=some o)(ke:∃o,h'.get? e=some o):Inv X [] σ H {s with heap:=h',toks:=t' }:=by
 have I0:Inv X [] σ H s:=⟨I.ok,I.os,I.bare,I.base,I.loc,I.cell,I.free,I.freeC,fun p z=>I.pin p (by rw[List.append_nil]at z;exact List.mem_append_left _ z),I.hok,I.len⟩
 have P:=I.pin (e,oe) (List.mem_append_right _ (List.mem_singleton.mpr rfl))
 have ne:∀b o,H b=some o->b≠e:=by
  rintro b o q rfl
  have:=P.2.1
  rw[q]at this
  cases this
 refine I0.call' (s':={s with heap:=h',toks:=t' }) (ch:=[e]) rfl ⟨fun b o q n hf hx=>k b o (by simpa using hx) q,fun b o q n hf hx=>⟨o.slots,k b o (by simpa using hx) q⟩,fun b o q n hx=>n,fun b o q hx=>⟨o,k b o (by simpa using hx) q⟩,fun _ _ q=>q,fun _ _ _ q=>q,fun b ps q=>⟨#[],by simpa using q⟩⟩
  (hok_objs I.hok fun b o u hb q=>k b u (ne b o hb) q) I.bare fun b z=>?_
 obtain rfl:b=e:=List.mem_singleton.mp z
 refine⟨.inl hX,P.2.2.1,fun x c q=>(I.ok.exf b hX).2 x c q,fun p hp z=>?_⟩
 rw[hpn]at hp
 cases hp
theorem init_set{f x self:Str}{v:V}{p1 p2 p3 pos:Pos}{Q:Flow->Shared->Prop}(hX:e∈X.ex)(hpn:X.pn=[])(I:Inv X [(e,excObj C a0 none)] σ H s){i j:Nat}(n0:X.N[i]?=some self)(v0:Vis X.env.scope self)(s0:σ[i]?=some (some (.ref e)))
  (n1:X.N[j]?=some x) (v1:Vis X.env.scope x) (s1:σ[j]?=some (some v)) (hs:PySem.W.findIn X.K (.ref C) "__setattr__" = some (some (.builtin "object.__setattr__")))
  (hna:PySem.W.findIn X.K (.ref C) f=some none) (hc:PySem.W.clsIn X.K C=some cd) (hm:cd.mro=rs.map Value.ref++mroVE) (hh:cd.hasDict=true)
  (h:∀u s' d,RelV v u->X.s₀.heap.objs.size<=d->s'.heap.get? e=some (excObj C a0 (some d))->s'.heap.Ns1 d (fun y=>if y=f then some u else none)->Inv X [] σ H s'->Q .next s')
  (d0:(self==("__debug__" : Str))=false:=by decide) (c0:(self==("__classdict__" : Str))=false:=by decide) (d1:(x==("__debug__" : Str))=false:=by decide) (c1:(x==("__classdict__" : Str))=false:=by decide)
  (sw:swapsWith (.Name x p3) (some (.Attribute (.Name self p1) f p2)) pos.line X.env=pure false:=by rfl) :
  wpAny (model X.prog X.w) X.A (exec (.Assign [.Attribute (.Name self p1) f p2] (.Name x p3) pos) X.env) Q X.xe s:=by
 refine plainObj_wpAny_Assign_Attribute (thn (pe_var n1 v1 d1 c1 _ s σ H (fun y H1=>y=v/\H1=H) I ⟨v,s1,rfl,rfl⟩) fun u t1 ⟨_,_,I1,r1,e1,e2⟩=>?_) sw
 subst e1 e2
 refine thn (pe_var n0 v0 d0 c0 _ t1 σ _ (fun y H1=>y=.ref e/\H1=_) I1 ⟨_,s0,rfl,rfl⟩) fun ov t2 ⟨_,_,I2,r2,e1,e2⟩=>?_
 subst e1 e2
 obtain rfl:ov=.ref e:=r2
 have he:=(I2.pin (e,_) (List.mem_append_right _ (List.mem_singleton.mpr rfl))).1
 refine set_exc I2.kIn he hs hna hc hm hh fun h' t' q1 q2 q3=>h u _ _ r1 ?_ q1 q2 (TL.Inv.wrote I2 hX hpn q3 ⟨_,q1⟩)
 exact I2.sz
end
section
variable {X:Cx} {σ:St} {H:Hp} {s:Shared} {e C CY:Addr} {mc:Value} {t0:Addr}
def tFs(m:Str)(j:Nat):TE:=fun σ H Q=>∃v:V,σ[j]?=some (some v)/\Says v/\(Str.empty++m).length<=sizeLine/\(Str.empty++m++txtV v).length<=sizeLine/\∀y,Q (.str y) H
theorem pe_fstr{x m:Str}{j k:Nat}{p1 p2 p3 pos:Pos}(n1:X.N[j]?=some x)(v1:Vis X.env.scope x) (d1:(x==("__debug__" : Str))=false:=by decide) (c1:(x==("__classdict__" : Str))=false:=by decide) :
  PE X (.JoinedStr [.Constant (.str m) k p1,.FormattedValue (.Name x p2) 114 none p3] pos) (tFs m j):=by
 intro pins s σ H Q I ⟨v,hs,hi,h1,h2,q⟩
 refine fstr_any hi h1 h2 fun tk=>thn (pe_var n1 v1 d1 c1 pins _ σ H (fun y H1=>y=v/\H1=H) (I.tok tk) ⟨_,hs,rfl,rfl⟩) fun u s1 ⟨_,_,I1,r1,e1,e2⟩=>?_
 subst e1 e2
 exact⟨r1,fun y t' tk=>⟨.str y,_,I1.tok tk,⟨_,rfl⟩,q y⟩⟩
variable {nm q:Str} {N:Addr} {bs bm bB:List Value} {hd ab:Bool} {sn:List Str} {sub:List Value} {col:Option Bool} {dd:Option Addr} {k0 k1 k2 k3 k5:Option Value} {B nid iid:String}
theorem init_up{y x m self:Str}{i j k:Nat}{v:V}{pl:Sem Bool}{p1 p2 p3 p4 p5 p6 p7 p8 p9:Pos}{Q:Flow->Shared->Prop}(F:ExcBaseFacts B nid iid bB)(hC:X.base.get? C=some (excClassObj nm q C N bs bm hd sn sub ab col dd k0 k1 k2 k3 k5 nid))(TT:OwnTail X.base bB bm)
  (hX:e∈X.ex) (hpn:X.pn=[]) (I:Inv X [(e,excObj C (.ref t0) none)] σ H s) (hg:Gl X y) (hmg:X.mg y=some (.ref CY)) (n0:X.N[i]?=some self) (v0:Vis X.env.scope self) (s0:σ[i]?=some (some (.ref e)))
  (n1:X.N[j]?=some x) (v1:Vis X.env.scope x) (s1:σ[j]?=some (some v)) (hz:Says v) (l1:(Str.empty++m).length<=sizeLine) (l2:(Str.empty++m++txtV v).length<=sizeLine)
  (hsp:PySem.W.specialIn X.K (.ref CY) "__getattribute__" = some (some (.builtin "type.__getattribute__"))) (hrd:PySem.W.readsIn X.K CY mc=true) (hfc:PySem.W.findCls X.K (.ref CY) mc "__init__" = some (.val (.builtin iid))) (hhi:PySem.W.handedIn (.builtin iid)=true)
  (h:∀s' t1,Inv X [(e,excObj C (.ref t1) none)] σ H s'->Q .next s')
  (dy:(y==("__debug__" : Str))=false:=by decide) (d0:(self==("__debug__" : Str))=false:=by decide) (c0:(self==("__classdict__" : Str))=false:=by decide) (d1:(x==("__debug__" : Str))=false:=by decide) (c1:(x==("__classdict__" : Str))=false:=by decide)
  (ht:eval (.Call (.Attribute (.Name y p1) "__init__" p2) [.Name self p3,.JoinedStr [.Constant (.str m) k p4,.FormattedValue (.Name x p5) 114 none p6] p7] [] p8) X.env=(do
   let ov ← eval (.Name y p1) X.env
   standAt p2.atName
   let (f,first) ← holding [ov] (getMethod ov "__init__" pl)
   callWith p8 f first (backTo p8 (starEach [.Name self p3,.JoinedStr [.Constant (.str m) k p4,.FormattedValue (.Name x p5) 114 none p6] p7] X.env)) (backToKw p8 (keywordEach [] X.env))):=by rfl) :
  wpAny (model X.prog X.w) X.A (exec (.Expr (.Call (.Attribute (.Name y p1) "__init__" p2) [.Name self p3,.JoinedStr [.Constant (.str m) k p4,.FormattedValue (.Name x p5) 114 none p6] p7] [] p8) p9) X.env) Q X.xe s:=by
 have pa:PA X [.Name self p3,.JoinedStr [.Constant (.str m) k p4,.FormattedValue (.Name x p5) 114 none p6] p7] (tCons (tVar i) (tCons (tFs m j) tNil)):=pa_cons (pe_var n0 v0 d0 c0) (pa_cons (pe_fstr n1 v1 d1 c1) pa_nil (star1 rfl)) (star1 rfl)
 refine wpAny_Expr_any ?_ I.quiet (by rfl)
 refine PySem.W.methodCall_KW (pl:=pl) (ld_glob I hg hmg ?_ dy) ht
 refine PySem.W.method_cls I.kIn hsp (PySem.W.cls_value I.kIn hrd hfc hhi ?_)
 refine PyProof.Rows.callWith_builtin1 (thn (pa p8 _ _ σ H (fun vs H1=>∃w,vs=[.ref e,.str w]/\H1=H) (I.tok _) ⟨_,s0,v,s1,hz,l1,l2,fun w=>⟨w,rfl,rfl⟩⟩) fun us s2 ⟨vs,H1,I2,r,w,e1,e2⟩=>?_) (star1 rfl) (stars rfl)
 subst e1 e2
 obtain⟨u,u',rfl,r1,r2⟩:=vals2 r
 obtain rfl:u=.ref e:=r1
 have he:=(I2.pin (e,_) (List.mem_append_right _ (List.mem_singleton.mpr rfl))).1
 obtain⟨hp,g,d,tk,os⟩:=s2
 refine init_call F (TT.keeps I2.bk) (I2.bk _ _ hC) he fun h' q1 q2=>h _ hp.objs.size ?_
 have J:=TL.Inv.wrote (t':=tk) I2 hX hpn q2 ⟨_,q1⟩
 have P:=I2.pin (e,_) (List.mem_append_right _ (List.mem_singleton.mpr rfl))
 refine⟨J.ok,J.os,J.bare,J.base,J.loc,J.cell,J.free,J.freeC,fun p z=>?_,J.hok,J.len⟩
 rw[hpn,List.nil_append,List.mem_singleton]at z
 subst z
 exact⟨q1,P.2.1,P.2.2.1,P.2.2.2.1,fun v z=>by cases z⟩
end
section
variable {Y:Cx} {pins:List (Addr×Obj)} {σ:St} {H:Hp} {s:Shared} {e C CY fI:Addr} {mc:Value} {cd:ClassData} {rs:List Addr}
variable {nm q:Str} {N:Addr} {bs bm bB:List Value} {hd ab:Bool} {sn:List Str} {sub:List Value} {col:Option Bool} {dd:Option Addr} {k0 k1 k2 k3 k5:Option Value} {B nid iid:String}
theorem init_run{name qual:Str}{params:Arguments}{scope:Scope}{dV kV doc pm cdv ct oc:Value}{an od:Option Addr}{osl:Array (Option Value)}{y f m self x:Str}{pl:Env->Sem Bool}{p1 p2 p3 p4 p5 p6 p7 p8 p9 r1 r2 r3 r4:Pos}{k j:Nat}{v:V}{u:Value}{h1:Heap}{A:Around}{E:Value->Shared->Prop}{Q:Value->Shared->Prop}
  (I:Inv Y pins σ H s) (mk:Heap.MadeExcOf s.heap h1 e (.ref C) [u]) (hle:s.heap.objs.size<=e) (hz:RelV v u) (zz:Says v)
  (lk:Y.K.lookup fI=some ⟨oc,od,.func (PySem.W.fnOf name qual params
   [.Expr (.Call (.Attribute (.Name y p1) "__init__" p2) [.Name self p3,.JoinedStr [.Constant (.str m) k p4,.FormattedValue (.Name x p5) 114 none p6] p7] [] p8) p9,.Assign [.Attribute (.Name self r1) f r2] (.Name x r3) r4] scope dV kV doc pm an cdv ct),osl⟩)
  (hcd:PySem.W.codeIn Y.K cdv qual=true) (S:FnScope [self,x] [self,x] scope) (v0:Vis scope self) (v1:Vis scope x) (hg:scope.names.lookup y=some .globalImplicit) (hr:Room (j + 1) A) (hA:Env0 Y.prog Y.w Y.K Y.mg Y.base A Y.stack {s with heap:=h1} H)
  (F:ExcBaseFacts B nid iid bB) (hC:Y.base.get? C=some (excClassObj nm q C N bs bm hd sn sub ab col dd k0 k1 k2 k3 k5 nid)) (TT:OwnTail Y.base bB bm) (hmg:Y.mg y=some (.ref CY))
  (l1:(Str.empty++m).length<=sizeLine) (l2:(Str.empty++m++txtV v).length<=sizeLine)
  (hsp:PySem.W.specialIn Y.K (.ref CY) "__getattribute__" = some (some (.builtin "type.__getattribute__"))) (hrd:PySem.W.readsIn Y.K CY mc=true) (hfc:PySem.W.findCls Y.K (.ref CY) mc "__init__" = some (.val (.builtin iid))) (hhi:PySem.W.handedIn (.builtin iid)=true)
  (hs:PySem.W.findIn Y.K (.ref C) "__setattr__" = some (some (.builtin "object.__setattr__"))) (hna:PySem.W.findIn Y.K (.ref C) f=some none) (hc:PySem.W.clsIn Y.K C=some cd) (hm:cd.mro=rs.map Value.ref++mroVE) (hh:cd.hasDict=true)
  (hb:BindsTo {s with heap:=h1} (PySem.W.fnOf name qual params
   [.Expr (.Call (.Attribute (.Name y p1) "__init__" p2) [.Name self p3,.JoinedStr [.Constant (.str m) k p4,.FormattedValue (.Name x p5) 114 none p6] p7] [] p8) p9,.Assign [.Attribute (.Name self r1) f r2] (.Name x r3) r4] scope dV kV doc pm an cdv ct) ⟨[.ref e,u],[]⟩ ([self,x].zip [.ref e,u]))
  (h:∀s' t1 d u',RelV v u'->s.heap.objs.size<=d->s'.heap.get? e=some (excObj C (.ref t1) (some d))->s'.heap.Ns1 d (fun a=>if a=f then some u' else none)->Inv Y pins σ H s'->Q .none s')
  (dy:(y==("__debug__" : Str))=false:=by decide) (d0:(self==("__debug__" : Str))=false:=by decide) (c0:(self==("__classdict__" : Str))=false:=by decide) (d1:(x==("__debug__" : Str))=false:=by decide) (c1:(x==("__classdict__" : Str))=false:=by decide)
  (ht:∀env:Env,eval (.Call (.Attribute (.Name y p1) "__init__" p2) [.Name self p3,.JoinedStr [.Constant (.str m) k p4,.FormattedValue (.Name x p5) 114 none p6] p7] [] p8) env=(do
   let ov ← eval (.Name y p1) env
   standAt p2.atName
   let (f,first) ← holding [ov] (getMethod ov "__init__" (pl env))
   callWith p8 f first (backTo p8 (starEach [.Name self p3,.JoinedStr [.Constant (.str m) k p4,.FormattedValue (.Name x p5) 114 none p6] p7] env)) (backToKw p8 (keywordEach [] env))):=by intro _;rfl)
  (sw:∀env:Env,swapsWith (.Name x r3) (some (.Attribute (.Name self r1) f r2)) r4.line env=pure false:=by intro _;rfl) :
  wpAny (model Y.prog Y.w) A (call (.ref fI) [.ref e,u]) Q E {s with heap:=h1}:=by
 obtain⟨t0,he,_,_⟩:=mk.there
 have nb:Y.base.get? e=none:=by
  cases w:Y.base.get? e with
  | none=>rfl
  | some o =>
   have:=I.bk e o w
   rw[mk.new]at this
   cases this
 have nH:H e=none:=by
  cases w:H e with
  | none=>rfl
  | some o =>
   obtain⟨b,hb⟩:=objOk_some (I.hok e o w)
   rw[mk.new]at hb
   cases hb
 have nf:e∉frs Y.stack:=fun w=>by
  obtain⟨_,o,q,_⟩:=I.stack.mem w
  rw[mk.new]at q
  cases q
 refine wpAny_call (run_open (CX:=fun _ _ _ _ _ _=>False) (E:=fun _ _ _=>False) lk hcd S hr hA hb (vs:=[.ref e,v]) (.cons rfl (.cons hz .nil)) rfl he nb nH nf (fun v w=>by cases w) fun s1 J=>?_)
 refine wpAny_execs_cons (init_up (X:=opCx (cxOf (fun _ _ _ _ _ _=>False) Y.prog Y.w Y.K Y.mg Y.base [self,x] qual scope fI cdv A Y.stack {s with heap:=h1} H fun _ _ _=>False) e) (t0:=t0) (pl:=pl _) F hC TT (List.mem_singleton.mpr rfl) rfl J (i:=0) (j:=1) hg hmg rfl v0 rfl rfl v1 rfl zz l1 l2 hsp hrd hfc hhi (fun s2 t1 J2=>?_) dy d0 c0 d1 c1 (ht _))
 refine wpAny_execs_cons (init_set (X:=opCx (cxOf (fun _ _ _ _ _ _=>False) Y.prog Y.w Y.K Y.mg Y.base [self,x] qual scope fI cdv A Y.stack {s with heap:=h1} H fun _ _ _=>False) e) (List.mem_singleton.mpr rfl) rfl J2 (i:=0) (j:=1) rfl v0 rfl rfl v1 rfl hs hna hc hm hh (fun u' s3 d ru ld q1 q2 J3=>?_) d0 c0 d1 c1 (sw _))
 refine wpAny_execs_nil ⟨rfl,?_⟩
 refine h s3 t1 d u' ru ?_ q1 q2 (TL.Inv.made I mk hle J3.os J3.base J3.hok J3.bare)
 exact Nat.le_trans hle (Nat.le_trans (Nat.le_of_lt (Heap.lt_size he)) ld)
end
section
variable {X:Cx} {pins:List (Addr×Obj)} {σ:St} {H:Hp} {s:Shared} {C fI N:Addr}
variable {nm q:Str} {bs bm bB:List Value} {hd ab:Bool} {sn:List Str} {sub:List Value} {col:Option Bool} {dd:Option Addr} {k0 k1 k2 k3 k5:Option Value} {B nid iid:String} {mN:Str->Option Value} {oI:Obj}
theorem raise_at{c:Str}{ea:Expr}{ta:TE}{np cpos pos:Pos}{Q:Flow->Shared->Prop}{P:V->Hp->Prop}(F:ExcBaseFacts B nid iid bB)(hB:bB.contains (.type B)=true) (hbE:bm.contains (.type "BaseException")=true)
  (hC:X.base.get? C=some (excClassObj nm q C N bs bm hd sn sub ab col dd k0 k1 k2 k3 k5 nid)) (hN:X.base.Ns N mN) (hi:mN "__init__" = some (.ref fI)) (hf:X.base.get? fI=some oI) (hcl:oI.cls=.type "function") (TT:OwnTail X.base bB bm)
  (I:Inv X pins σ H s) (hca:X.calm=true) (hg:Gl X c) (hmg:X.mg c=some (.ref C)) (pa1:PE X ea ta) (hs1:starEach [ea] X.env=(false,eval ea X.env)::starEach [] X.env) (hsp:(backTo cpos (starEach [ea] X.env)).any (·.1)=false) (ht:ta σ H P)
  (h:∀s2 v u h' e H2,Inv X pins σ H2 s2->P v H2->RelV v u->Heap.MadeExcOf s2.heap h' e (.ref C) [u]->s2.heap.objs.size<=e->wpAny (model X.prog X.w) (X.A.under (.builtin "type.__call__" ⟨[.ref C,u],[]⟩)) (call (.ref fI) [.ref e,u])
   (fun r s'=>r=.none/\(∃t1 d,s'.heap.get? e=some (excObj C (.ref t1) (some d)))/\Inv X pins σ H2 s'/\X.xe (.ref e) s') X.xe {s2 with heap:=h' })
  (dc:(c==("__debug__" : Str))=false:=by decide) :
  wpAny (model X.prog X.w) X.A (exec (.Raise (some (.Call (.Name c np) [ea] [] cpos)) none pos) X.env) Q X.xe s:=by
 refine raise_own (C:=C) (nm:=nm) (q:=q) (N:=N) (bs:=bs) (bm:=bm) (hd:=hd) (sn:=sn) (sub:=sub) (ab:=ab) (col:=col) (dd:=dd) (k0:=k0) (k1:=k1) (k2:=k2) (k3:=k3) (k5:=k5) F hB hbE (I.ok.hd hca) hsp hi hcl (ld_glob I hg hmg ⟨rfl,?_⟩ dc)
 have pa:PA X [ea] (tCons ta tNil):=pa_cons pa1 pa_nil hs1
 have y:=pa cpos pins s σ H (fun vs H1=>match vs with|[v]=>P v H1|_=>False) I ht
 rw[hs1]at y ⊢
 refine Calls.evalArgs_plain (wpAny_mono y (fun us s2 w=>?_) fun _ _ w=>w)
 obtain⟨vs,H1,I1,r,hP⟩:=w
 obtain⟨v,rfl⟩:∃v,vs=[v]:=by
  cases vs with
  | nil=>exact hP.elim
  | cons v l =>
   cases l with
   | nil=>exact⟨v,rfl⟩
   | cons _ _=>exact hP.elim
 obtain⟨u,rfl,r1⟩:=vals1 r
 refine⟨rfl,few (by simp),I1.bk _ _ hC,hN.keeps I1.bk,I1.bk _ _ hf,TT.keeps I1.bk,fun h' e mk le=>wpAny_mono (h s2 v u h' e H1 I1 hP r1 mk le) (fun a s' w=>?_) fun _ _ w=>w⟩
 obtain⟨rfl,⟨t1,d,w1⟩,J,w2⟩:=w
 exact⟨rfl,J.bk _ _ hC,⟨_,_,w1⟩,w2⟩
end
section
variable {X:Cx} {pins:List (Addr×Obj)} {σ:St} {H H':Hp} {s s':Shared} {e C t1:Addr} {dx:Option Addr}
theorem leave_firstD{M:Model}{Q:Unit->Shared->Prop}{E:Value->Shared->Prop}(D:DefCx X)(I:Inv X pins σ H s)(he:s.heap.get? e=some (excObj C (.ref t1) dx))(nH:H e=none)(n0:X.s₀.heap.get? e=none)
  (hQ:∀h2,Fly X.prog X.w X.outer X.H₀ X.s₀ H e (.ref C) {s with heap:=h2}->DAt h2 e dx->Q () {s with heap:=h2}):wpAny M X.A (leaving X.env (.ref e)) Q E s:=by
 have FF:s.heap.FunFrames X.base X.stack:=I.stack
 have fs:=frs_cons D
 have eN:e∉frs X.stack:=fun z=>by
  obtain⟨_,o,q,n⟩:=FF.mem z
  rw[he]at q
  cases q
  exact n _ rfl
 have hin:∀env∈X.stack,∀b,env.frame=some b->b∈e::frs X.stack:=fun env h b hb=>List.mem_cons_of_mem _ (List.mem_filterMap.mpr ⟨env,h,hb⟩)
 obtain⟨B,hB⟩:∃B,B=PySem.W.hideAll s.heap (e::frs X.stack):=⟨_,rfl⟩
 have FH:s.heap.FunFrames B X.stack:=by rw[hB];exact PySem.W.funFrames_hide FF hin
 have hen:B.get? e=none:=by rw[hB];exact PySem.W.hideAll_none _ (List.mem_cons_self ..)
 have sub:∀b o,B.get? b=some o->s.heap.get? b=some o:=fun b o hb=>by rw[hB]at hb;exact PySem.W.of_hideAll _ hb
 have inB:∀b o,s.heap.get? b=some o->b≠e->b≠X.env.locals->b∉frs X.outer->B.get? b=some o:=fun b o q n1 n2 n3=>by
  rw[hB]
  exact PySem.W.hideAll_get _ q (by rw[fs];intro z;rcases List.mem_cons.mp z with z|z;exact n1 z;rcases List.mem_cons.mp z with z|z;exact n2 z;exact n3 z)
 have hfr:X.A.frames=some (X.env::X.outer):=by rw[I.ok.frames,D.stk]
 rw[D.stk]at FH
 refine firstD (a0:=.ref t1) hfr FH D.frame he sub hen rfl rfl rfl fun h2 hL hD=>hQ h2 ?_ hD
 obtain⟨k1,⟨_,_,k2⟩,k3,k4⟩:=hL
 have trk:∀b o u,H b=some o->s.heap.get? b=some u->B.get? b=some u:=fun b o u hb q=>inB b u q (by rintro rfl;rw[nH]at hb;cases hb) (by rintro rfl;rw[I.free]at hb;cases hb) (fun z=>by
  have:=I.stkFree b (by rw[fs];exact List.mem_cons_of_mem _ z)
  rw[hb]at this
  cases this)
 have oldL:∀b o,X.s₀.heap.get? b=some o->b≠X.env.locals:=fun b o q z=>by
  have l1:=Heap.lt_size q
  rw[z]at l1
  exact absurd (Nat.lt_of_lt_of_le l1 I.ok.above) (Nat.lt_irrefl _)
 have oldE:∀b o,X.s₀.heap.get? b=some o->b≠e:=by
  rintro b o q rfl
  rw[n0]at q
  cases q
 have nox:∀b:Addr,b∉X.ex:=fun b=>by rw[D.ex];simp
 have frm:∀b,b∈frs X.outer->∀o,s.heap.get? b=some o->∃sl,h2.get? b=some {o with slots:=sl}:=fun b hf o q=>by
  have hb:b∈frs X.stack:=by rw[fs];exact List.mem_cons_of_mem _ hf
  obtain⟨_,ob,eb,nf⟩:=FF.mem hb
  rw[q]at eb
  cases eb
  exact k4 b _ q nf
 refine⟨I.os,I.bare,⟨fun b o q n hf _=>?_,fun b o q n hf _=>?_,fun b o q n _=>I.base.free b o q n (nox b),fun b o q _=>?_,I.base.tups,I.base.frzs,I.base.tbls⟩,hok_objs I.hok fun b o u hb q=>k1 b u (trk b o u hb q),n0,nH,B,_,⟨k1,hen,k2,k3⟩,fun b o hb=>?_,fun b u o q q2 hf=>?_⟩
 ·exact k1 b o (inB b o (I.base.keep b o q n hf (nox b)) (oldE b o q) (oldL b o q) hf)
 ·obtain⟨sl,e1⟩:=I.base.slot b o q n hf (nox b)
  obtain⟨sl2,e2⟩:=frm b hf _ e1
  exact⟨sl2,e2⟩
 ·obtain⟨o1,e1⟩:=I.base.there b o q (nox b)
  by_cases hf:b∈frs X.outer
  ·obtain⟨sl2,e2⟩:=frm b hf _ e1
   exact⟨_,e2⟩
  ·exact⟨_,k1 b o1 (inB b o1 e1 (oldE b o q) (oldL b o q) hf)⟩
 ·obtain⟨u,hu⟩:=objOk_some (I.hok b o hb)
  exact⟨u,trk b o u hb hu⟩
 ·obtain⟨o1,e1⟩:=I.base.there b u q (nox b)
  have w:=inB b o1 e1 (oldE b u q) (oldL b u q) hf
  have w2:=k1 b o1 w
  have q2':h2.get? b=some o:=q2
  rw[w2]at q2'
  cases q2'
  exact w
theorem leave_onD{M:Model}{C:Value}{Q:Unit->Shared->Prop}{E:Value->Shared->Prop}(D:DefCx X)(I:Inv X pins σ H s)(F:Fly X.prog X.w X.stack H s H' e C s')(da:DAt s'.heap e dx)
  (hQ:∀h2,Fly X.prog X.w X.outer X.H₀ X.s₀ H' e C {s' with heap:=h2}->DAt h2 e dx->Q () {s' with heap:=h2}):wpAny M X.A (leaving X.env (.ref e)) Q E s':=by
 obtain⟨B,a0,fl,tB,oB⟩:=F.fly
 have hfr:X.A.frames=some (X.env::X.outer):=by rw[I.ok.frames,D.stk]
 have fl':Heap.FlyingW B (X.env::X.outer) e C a0 s'.heap:=by rw[← D.stk];exact fl
 refine nextD hfr D.frame fl' da fun h2 fl2 up hD=>hQ h2 ?_ hD
 have fs:=frs_cons D
 have I':Inv X pins σ H' s':=I.call' (ch:=[]) F.os F.un F.hok F.bare fun b z=>absurd z (by simp)
 have nox:∀b:Addr,b∉X.ex:=fun b=>by rw[D.ex];simp
 have oldL:∀b o,X.s₀.heap.get? b=some o->b≠X.env.locals:=fun b o q z=>by
  have l1:=Heap.lt_size q
  have l2:=I.ok.above
  rw[z]at l1
  exact absurd (Nat.lt_of_lt_of_le l1 l2) (Nat.lt_irrefl _)
 have same:∀b u v,B.get? b=some u->s'.heap.get? b=some v->u=v:=fun b u v h1 h2=>by
  have:=fl.1 b u h1
  rw[h2]at this
  exact(Option.some.inj this).symm
 have inB:∀b u,X.s₀.heap.get? b=some u->b∉frs X.outer->∃o2,s'.heap.get? b=some o2/\B.get? b=some o2:=fun b u q hf=>by
  obtain⟨o1,e1⟩:=I.base.there b u q (nox b)
  obtain⟨o2,e2⟩:=F.un.there b o1 e1 (by simp)
  exact⟨o2,e2,oB b o1 o2 e1 e2 (by rw[fs];intro z;rcases List.mem_cons.mp z with z|z;exact oldL b u q z;exact hf z)⟩
 have nofld:∀b∈frs X.outer,∃ob,s'.heap.get? b=some ob/\∀vs,ob.data ≠ .fields vs:=fun b hb=>by
  have hb':b∈X.stack.filterMap (·.frame):=by
   have:=fs
   unfold frs at this
   rw[this]
   exact List.mem_cons_of_mem _ hb
  obtain⟨_,ob,eb,nf⟩:=(I'.stack).mem hb'
  exact⟨ob,eb,nf⟩
 refine⟨I'.os,I'.bare,⟨fun b o q n hf _=>?_,fun b o q n hf _=>?_,fun b o q n _=>I'.base.free b o q n (nox b),fun b o q _=>?_,I'.base.tups,I'.base.frzs,I'.base.tbls⟩,hok_objs F.hok fun b o u hb q=>?_,?_,F.non,B,a0,fl2,tB,fun b u o q q2 hf=>?_⟩
 ·obtain⟨o2,e2,eB⟩:=inB b o q hf
  have:=I'.base.keep b o q n hf (nox b)
  rw[e2]at this
  cases this
  exact fl2.1 b _ eB
 ·obtain⟨sl,e1⟩:=I'.base.slot b o q n hf (nox b)
  obtain⟨ob,eb,nf⟩:=nofld b hf
  rw[e1]at eb
  cases eb
  obtain⟨sl2,e2⟩:=up b _ e1 nf
  exact⟨sl2,e2⟩
 ·obtain⟨o1,e1⟩:=I'.base.there b o q (nox b)
  by_cases hf:b∈frs X.outer
  ·obtain⟨ob,eb,nf⟩:=nofld b hf
   rw[e1]at eb
   cases eb
   obtain⟨sl2,e2⟩:=up b _ e1 nf
   exact⟨_,e2⟩
  ·obtain⟨o2,_,eB⟩:=inB b o q hf
   exact⟨o2,fl2.1 b o2 eB⟩
 ·obtain⟨v,hv⟩:=tB b o hb
  have:=same b v u hv q
  subst this
  exact fl2.1 b v hv
 ·cases q:X.s₀.heap.get? e with
  | none=>rfl
  | some o =>
   obtain⟨o1,e1⟩:=I.base.there e o q (nox e)
   rw[F.new]at e1
   cases e1
 ·obtain⟨o2,e2,eB⟩:=inB b u q hf
  have z2:=fl2.1 b o2 eB
  have q2':h2.get? b=some o:=q2
  rw[z2]at q2'
  cases q2'
  exact eB
end
end TL
end
section
namespace TL
open PySem PySem.Spec PyProof.Rows L2
abbrev SpX:=(T->Prop)->SpT
abbrev RF:T->Prop:=fun _=>False
abbrev clsAt(K:PySem.W.Frag)(c:Str)(C:Addr):Prop:=PySem.W.nsIn K mainGlobals c=some (some (.ref C))
def wishF(K:PySem.W.Frag)(R:T->Prop)(C:Addr)(dx:Option Addr)(H:Hp):Prop:=∃c,clsAt K c C ∧
 match dx with
 | none=>R (.exc c)
 | some d=>∃f t od u y,H d=some (kn od)/\PySem.W.lookIn f od=some (some u)/\RelV y u/\Rep K H t y/\R (.exf c f t)
def wishOf(K:PySem.W.Frag)(R:T->Prop):XK:=fun v dx H=>∃C,v=.ref C/\wishF K R C dx H
def CXE(P:Program)(w:World):CXT:=fun outer H s E e s'=>∃a C dx H',e=.ref a/\Fly P w outer H s H' a (.ref C) s'/\DAt s'.heap a dx/\Same H H'/\E (.ref C) dx H'
def spX(K:PySem.W.Frag)(n:Nat)(S:SpX):Sp:=fun vs H Q E=>∃(ts:List T) (Q0 R0:T->Prop),vs.length=n/\Reps K H ts vs/\S R0 ts Q0/\(∀t v H',Same H H'->Rep K H' t v->Q0 t->Q v H')/\∀v dx H',Same H H'->wishOf K R0 v dx H'->E v dx H'
structure FnX(P:Program)(w:World)(K:PySem.W.Frag)(mg:Str->Option Value)(base:Heap)(k:Nat)(f:Addr)(fd:FuncData)(ps:List Str)(S:SpX):Prop where
 ok:FnOk P w K mg base (CXE P w) k f fd ps (spX K ps.length S)
 len:∀R ts Q,S R ts Q->ts.length=ps.length
theorem FnX.calm{P:Program}{w:World}{K:PySem.W.Frag}{mg:Str->Option Value}{base:Heap}{k:Nat}{f:Addr}{fd:FuncData}{ps:List Str}{S:SpX}(F:FnX P w K mg base k f fd ps S):FnT P w K mg base k f fd ps (S RF):=by
 refine⟨⟨fun vs H Q E ⟨ts,Q0,e,_⟩=>e,fun A outer s H args us vs Q E hr e0 hb hv ⟨ts,Q0,e,r,hS,q⟩=>?_⟩,F.len RF⟩
 refine codeAny_mono (F.ok.run A outer s H args us vs Q (fun _ _ _=>False) hr e0 hb hv ⟨ts,Q0,RF,e,r,hS,q,fun v dx H' _ z=>?_⟩) fun res s' h=>?_
 ·obtain⟨_,_,_,_,z⟩:=z
  cases dx with
  | none=>exact z
  | some d =>
   obtain⟨_,_,_,_,_,_,_,_,_,z⟩:=z
   exact z
 ·cases res with
  | ok fl=>cases fl<;>exact h
  | error e =>
   obtain⟨_,_,_,_,_,_,_,_,z⟩:=h
   exact z.elim
def CalX(P:Program)(w:World)(K:PySem.W.Frag)(mg:Str->Option Value)(base:Heap)(k:Nat)(x:Str)(ps:List Str)(S:SpX):Prop :=
 ∃f fd,FnX P w K mg base k f fd ps S/\Binds K fd ps []/\PySem.W.keepIn K (.ref f)=true/\mg x=some (.ref f)
theorem CalX.mk{P:Program}{w:World}{K:PySem.W.Frag}{mg:Str->Option Value}{base:Heap}{k:Nat}{x qual:Str}{ps:List Str}{S:SpX}{st:Stmt}{f:Addr}{fd:FuncData}(F:Fun K x qual st f fd)(m:mg x=some (.ref f))
  (b:Binds K fd ps []) (h:FnX P w K mg base k f fd ps S):CalX P w K mg base k x ps S:=⟨f,fd,h,b,F.kp,m⟩
theorem CalX.calm{P:Program}{w:World}{K:PySem.W.Frag}{mg:Str->Option Value}{base:Heap}{k:Nat}{x:Str}{ps:List Str}{S:SpX}(C:CalX P w K mg base k x ps S):Cal P w K mg base k x ps (S RF) :=
 let ⟨f,fd,F,b,kp,m⟩:=C;⟨f,fd,F.calm,b,kp,m⟩
section
variable {X:Cx} {a b c e:Expr} {es:List Expr} {wa wb wc w:WE} {ws:WA} {pos:Pos} {st:Stmt}
theorem fresh_H{pins:List (Addr×Obj)}{σ:St}{H:Hp}{s:Shared}{a:Addr}(I:Inv X pins σ H s)(n:s.heap.get? a=none):H a=none:=by
 cases w:H a with
 | none=>rfl
 | some o =>
  obtain⟨b,hb⟩:=objOk_some (I.hok a o w)
  rw[n]at hb
  cases hb
theorem fresh_0{pins:List (Addr×Obj)}{σ:St}{H:Hp}{s:Shared}{a:Addr}(I:Inv X pins σ H s)(ex:X.ex=[])(n:s.heap.get? a=none):X.s₀.heap.get? a=none:=by
 cases w:X.s₀.heap.get? a with
 | none=>rfl
 | some o =>
  obtain⟨b,hb⟩:=I.base.there a o w (by rw[ex];simp)
  rw[n]at hb
  cases hb
structure Takes(X:Cx)(R:T->Prop):Prop where
 ex:X.ex=[]
 on:∀(pins:List (Addr×Obj))(σ:St)(H H':Hp)(s s':Shared)(a C:Addr)(dx:Option Addr),Inv X pins σ H s->Same X.H₀ H->Fly X.prog X.w X.stack H s H' a (.ref C) s'->DAt s'.heap a dx->Same H H'->wishF X.K R C dx H'->X.xe (.ref a) s'
 new:∀(pins:List (Addr×Obj))(σ:St)(H:Hp)(s:Shared)(a C t1:Addr)(dx:Option Addr),Inv X pins σ H s->Same X.H₀ H->s.heap.get? a=some (excObj C (.ref t1) dx)->H a=none->X.s₀.heap.get? a=none->wishF X.K R C dx H->X.xe (.ref a) s
theorem run_at{k:Nat}{f:Addr}{fd:FuncData}{ps:List Str}{S:SpX}{pins:List (Addr×Obj)}{σ:St}{H:Hp}{s:Shared}{Q:VK}{us:List Value}{vs:List V}{ts:List T}{Q0 R0:T->Prop}{E:Value->Shared->Prop}(F:FnX X.prog X.w X.K X.mg X.base k f fd ps S)(hr:Room k X.A)(hb:Binds X.K fd ps [])
  (hx:∀a C dx H' s',Fly X.prog X.w X.stack H s H' a (.ref C) s'->DAt s'.heap a dx->Same H H'->wishF X.K R0 C dx H'->E (.ref a) s')
  (I:Inv X pins σ H s) (r:Vals vs us) (rr:Reps X.K H ts vs) (hS:S R0 ts Q0) (q:∀t v H',Same H H'->Rep X.K H' t v->Q0 t->Q v H'):wpAny (model X.prog X.w) X.A (call (.ref f) us) (EP X pins σ Q) E s:=by
 have hl:us.length=ps.length:=by rw[← r.length,rr.length];exact F.len _ _ _ hS
 have hbb:=hb s us I.kIn (by simpa using hl)
 rw[List.append_nil]at hbb
 refine wpAny_call (codeAny_mono (F.ok.run X.A X.stack s H ⟨us,[]⟩ us vs Q (wishOf X.K R0) hr I.env0 hbb r ⟨ts,Q0,R0,by rw[r.length];exact hl,rr,hS,q,fun v dx H' _ z=>z⟩) fun res s' h=>?_)
 cases res with
 | error e =>
  obtain⟨a,C,dx,H',rfl,fl,da,S1,C',e1,h1⟩:=h
  cases e1
  exact hx a C dx H' s' fl da S1 h1
 | ok fl =>
  cases fl with
  | ret u=>exact I.after h
  | next=>exact False.elim h
  | brk=>exact False.elim h
  | cont=>exact False.elim h
theorem jcallX{k:Nat}{ps:List Str}{S:SpX}{R:T->Prop}{x:Str}{p:Pos}(C:CalX X.prog X.w X.K X.mg X.base k x ps S)(tk:Takes X R)(hr:Room k X.A)(hg:Gl X x)
  (ha:JA X (e::es) ws) (hdb:(x==("__debug__" : Str))=false:=by decide) (he:starEach (e::es) X.env=(false,eval e X.env)::starEach es X.env:=by exact star1 rfl)
  (hpl:(backTo pos (starEach es X.env)).any (·.1)=false:=by exact stars rfl):JE X (.Call (.Name x p) (e::es) [] pos) (wCall (S R) ws):=by
 obtain⟨f,fd,F,hb,hk,hm⟩:=C
 intro pins s σ H Q I ⟨τ,Q0,R0,hw,k⟩
 refine wpAny_Call_Name_kw (ld_glob I hg hm ?_ hdb)
 refine PySem.W.callWith_K (h₀:=X.base) I.ok.mod.kin hk (thn (ha pos pins s σ H (fun vs H1=>∃ts,Same H H1/\Reps X.K H1 ts vs/\S R ts Q0) I ⟨τ,_,R0,hw,fun ts vs H1 S1 r q=>⟨ts,S1,r,q⟩⟩) fun us s1 ⟨vs,H1,I1,r,ts,S1,rr,q⟩=>⟨I1.kIn,?_⟩) he hpl
 exact run_at F hr hb (fun a C dx H' s' fl da S2 h1=>tk.on pins σ H1 H' s1 s' a C dx I1 (R0.same.trans S1) fl da S2 h1) I1 r rr q fun t v H' S2 r2 q2=>k t v H' (S1.trans S2) r2 q2
def sRaise(R:T->Prop)(c:Str):WS:=fun _ _=>R (.exc c)
def ExcCls(K:PySem.W.Frag)(mg:Str->Option Value)(c:Str):Prop:=∃C,clsAt K c C/\mg c=some (.ref C)/\PySem.W.excIn K C [.type "ValueError", .type "Exception", .type "BaseException", .type "object"] "ValueError.__new__" = true
theorem cls_at{K:PySem.W.Frag}{h:Heap}{C:Addr}{bs:List Value}{id:String}(kin:K.In h)(q:PySem.W.excIn K C bs id=true) :
  ∃bm N nm qn bb hd sn sub ab col dd k0 k1 k2 k3 k5 mN,h.get? C=some (excClassObj nm qn C N bb bm hd sn sub ab col dd k0 k1 k2 k3 k5 id)/\h.Ns N mN/\mN "__init__" = none/\OwnTail h bs bm:=by
 unfold PySem.W.excIn at q
 split at q
 case h_2=>cases q
 rename_i dd cd sl look
 split at q
 case h_2=>cases q
 rename_i C1 bm k0 k1 k2 k3 n k5 em es
 rw[Bool.and_eq_true,Bool.and_eq_true,Bool.and_eq_true,Bool.and_eq_true,Bool.and_eq_true]at q
 obtain⟨⟨⟨⟨⟨e1,e2⟩,e3⟩,e4⟩,e5⟩,e6⟩:=q
 have e1:=beq_iff_eq.mp e1
 have e2:=beq_iff_eq.mp e2
 have e6:=beq_iff_eq.mp e6
 have obj:=kin _ _ look
 obtain⟨f1,f2,f3,f4,f5,f6,f7,f8,f9,f10,f11⟩:=cd
 have e3:f11=false:=by simpa using e3
 have em:f3=.ref C1::bm:=em
 have hs:sl=#[k0,k1,k2,k3,some (.builtin n),k5]:=by
  cases sl with
  | mk l=>exact congrArg Array.mk es
 rw[hs,em,e3,e1,e2]at obj
 exact⟨bm,f4,f1,f5,f2,f6,f7,f8,f9,f10,dd,k0,k1,k2,k3,k5,h.nsMap f4,obj,.of_isNs (PySem.W.isNs_of_in kin e5),PySem.W.nsMap_none_of_in kin e5 e6,PySem.W.tail_of_in kin e4⟩
theorem jraise{R:T->Prop}{x:Str}{m:Str}{j:Nat}{mp np cpos:Pos}(G:ExcCls X.K X.mg x)(tk:Takes X R)(hc:X.calm=true)(hg:Gl X x) (hdb:(x==("__debug__" : Str))=false:=by decide) :
  JS X (.Raise (some (.Call (.Name x np) [.Constant (.str m) j mp] [] cpos)) none pos) (sRaise R x):=by
 obtain⟨C,hC0,hm,hex⟩:=G
 intro pins s σ H D I ⟨τ,D0,R0,hw,_⟩
 obtain⟨bm,N,nm,qn,bb,hd,sn,sub,ab,col,dd,k0,k1,k2,k3,k5,mN,hC,hN,hni,TL⟩:=cls_at I.ok.mod.kin hex
 refine wpAny_Raise_call_subT (C:=C) (nm:=nm) (q:=qn) (N:=N) (bs:=bb) (bm:=bm) (hdct:=hd) (sn:=sn) (sub:=sub) (ab:=ab) (col:=col) (dd:=dd) (k0:=k0) (k1:=k1) (k2:=k2) (k3:=k3) (k5:=k5)
  PySem.F.excBase_ValueError (mN:=mN) (TL.hasType rfl) (I.ok.hd hc) (stars rfl) hni (ld_glob I hg hm ⟨rfl,?_⟩ hdb)
 have pa:PA X [.Constant (.str m) j mp] (tCons (tC (.str m)) tNil):=pa_cons pe_str pa_nil (star1 rfl)
 have z:=pa cpos pins s σ H (fun vs H1=>H1=H/\vs=[.str m]) I ⟨rfl,rfl⟩
 rw[star1 (e:=.Constant (.str m) j mp) rfl]at z ⊢
 refine Calls.evalArgs_plain (wpAny_mono z (fun us s1 h1=>?_) fun _ _ y=>y)
 obtain⟨vs,H1,I1,r,rfl,rfl⟩:=h1
 refine⟨rfl,by rw[← r.length];exact few (by simp),I1.bk _ _ hC,hN.keeps I1.bk,TL.keeps I1.bk,fun h' a mk=>?_⟩
 obtain⟨t1,he,_,_⟩:=mk.there
 exact tk.new pins σ H1 {s1 with heap:=h',toks:=s1.toks} a C t1 none (I1.kept mk.keeps) R0.same he (fresh_H I1 mk.new) (fresh_0 I1 (tk.ex) mk.new) ⟨x,hC0,hw⟩
theorem takes_def{P:Program}{w:World}{K:PySem.W.Frag}{mg:Str->Option Value}{base:Heap}{N:List Str}{qual:Str}{scope:Scope}{f:Addr}{cdv:Value}{A:Around}{outer:List Env}{s:Shared}{H:Hp}{E:XK}{R:T->Prop}
  (hE:∀v dx H',Same H H'->wishOf K R v dx H'->E v dx H'):Takes (cxOf (CXE P w) P w K mg base N qual scope f cdv A outer s H E) R:=by
 have D:DefCx (cxOf (CXE P w) P w K mg base N qual scope f cdv A outer s H E):=⟨rfl,rfl,rfl⟩
 refine⟨rfl,fun pins σ H1 H' s1 s' a C dx I S0 fl da S1 h1=>?_,fun pins σ H1 s1 a C t1 dx I S0 he nH n0 h1=>?_⟩
 ·exact leave_onD D I fl da fun h2' F2 d2=>⟨a,C,dx,H',rfl,F2,d2,S0.trans S1,hE _ _ _ (S0.trans S1) ⟨C,rfl,h1⟩⟩
 ·exact leave_firstD D I he nH n0 fun h2' F2 d2=>⟨a,C,dx,H1,rfl,F2,d2,S0,hE _ _ _ S0 ⟨C,rfl,h1⟩⟩
theorem fnX{P:Program}{w:World}{K:PySem.W.Frag}{mg:Str->Option Value}{base:Heap}{x qual:Str}{st:Stmt}{f:Addr}{fd:FuncData}{N ps:List Str}{k:Nat}{S:SpX}{W:(T->Prop)->WS}(F:Fun K x qual st f fd)(SC:FnScope N ps (defScope st))
  (hlen:∀R ts Q,S R ts Q->ts.length=ps.length)
  (hbody:∀(R:T->Prop)(cdv:Value)(A:Around)(outer:List Env)(s:Shared)(H:Hp)(E:XK),Room k (A.deeper (envOfC qual (defScope st) s.heap.objs.size f cdv))->Takes (cxOf (CXE P w) P w K mg base N qual (defScope st) f cdv A outer s H E) R →
   JSs (cxOf (CXE P w) P w K mg base N qual (defScope st) f cdv A outer s H E) (defBody st) (W R))
  (hw:∀R ts Q,S R ts Q->W R {nx:=fun _=>Q .non,rt:=Q} (startT N.length ts)):FnX P w K mg base (k + 1) f fd ps S:=by
 refine⟨?_,hlen⟩
 obtain⟨oc,od,kV,doc,pm,an,cdv,ct,osl,rfl,lk,hcd⟩:=F.ex
 refine fn_of lk hcd SC (fun vs H Q E ⟨_,_,_,e,_⟩=>e) fun A outer s H vs Q E hr h=>?_
 obtain⟨ts,Q0,R0,e,r,hS,q,hE⟩:=h
 refine⟨_,hbody R0 cdv A outer s H E hr (takes_def hE),startT N.length ts,{nx:=fun _=>Q0 .non,rt:=Q0},repSt_start r,hw R0 ts Q0 hS,fun τ' σ' H' _ R n=>?_,fun t v H' S r' n=>q t v H' S r' n,fun τ' σ' H' _ R n=>n.elim,fun τ' σ' H' _ R n=>n.elim⟩
 exact q .non .non H' R.same (rep_non.mpr rfl) n
end
end TL
end
section
namespace TL
open PySem PySem.Spec PyProof.Rows L2
section
variable {X:Cx} {pins:List (Addr×Obj)} {σ:St} {H H':Hp} {s s':Shared} {a:Addr}
theorem land_inv{C a0:Value}{B h6:Heap}(I:Inv X pins σ H s)(F:Fly X.prog X.w X.stack H s H' a C s')(fl:Heap.FlyingW B X.stack a C a0 s'.heap)(tB:∀b o,H' b=some o->∃u,B.get? b=some u)
  (oB:∀b u o,s.heap.get? b=some u->s'.heap.get? b=some o->b∉frs X.stack->B.get? b=some o) (st:B.StaysIn h6) (up:s'.heap.UpToSlots h6):Inv X pins σ H' {s' with heap:=h6}:=by
 have I':Inv X pins σ H' s':=I.call' (ch:=[]) F.os F.un F.hok F.bare fun b z=>absurd z (by simp)
 have nofld:∀b∈frs X.stack,∃ob,s'.heap.get? b=some ob/\∀vs,ob.data ≠ .fields vs:=fun b hb=>by
  obtain⟨_,ob,eb,nf⟩:=(I'.stack).mem hb
  exact⟨ob,eb,nf⟩
 refine I.call' (s':={s' with heap:=h6}) (ch:=[]) F.os ⟨fun b o q n hf _=>?_,fun b o q n hf _=>?_,F.un.free,fun b o q _=>?_,F.un.tups,F.un.frzs,F.un.tbls⟩ (hok_objs F.hok fun b o u hb q=>?_) F.bare fun b z=>absurd z (by simp)
 ·have e2:=F.un.keep b o q n hf (by simp)
  exact st b o (oB b o o q e2 hf)
 ·obtain⟨sl,e1⟩:=F.un.slot b o q n hf (by simp)
  obtain⟨ob,eb,nf⟩:=nofld b hf
  rw[e1]at eb
  cases eb
  obtain⟨sl2,e2⟩:=up b _ e1 nf
  exact⟨sl2,e2⟩
 ·obtain⟨o1,e1⟩:=F.un.there b o q (by simp)
  by_cases hf:b∈frs X.stack
  ·obtain⟨ob,eb,nf⟩:=nofld b hf
   rw[e1]at eb
   cases eb
   obtain⟨sl2,e2⟩:=up b _ e1 nf
   exact⟨_,e2⟩
  ·exact⟨o1,st b o1 (oB b o o1 q e1 hf)⟩
 ·obtain⟨v,hv⟩:=tB b o hb
  have:=fl.1 b v hv
  rw[q]at this
  cases this
  exact st b _ hv
theorem Inv.track{o:Obj}(I:Inv X pins σ H s)(hn:H a=none)(ho:s.heap.get? a=some o)(h0:X.s₀.heap.get? a=none)(hL:a≠X.env.locals)(hc:∀x c,X.env.cells.lookup x=some c->c≠a)(hp:∀p∈X.pn++pins,p.1≠a):Inv X pins σ (upd H a (kn o)) s:=by
 have ne:∀{b:Addr}{u:HO},H b=some u->b≠a:=fun q z=>by rw[z,hn]at q;cases q
 refine⟨I.ok,I.os,I.bare,⟨I.base.keep,I.base.slot,fun b ob q n hx=>?_,I.base.there,fun b xs q=>?_,fun b ob u q=>?_,fun b ps q=>?_⟩,I.loc,I.cell,?_,fun x c q=>?_,fun p q=>?_,fun b u q=>?_,I.len⟩
 ·have nb:b≠a:=fun z=>by rw[z,h0]at q;cases q
  rw[upd_ne nb]
  exact I.base.free b ob q n hx
 ·have e:=I.base.tups b xs q
  rw[upd_ne (ne e)]
  exact e
 ·have e:=I.base.frzs b ob u q
  rw[upd_ne (ne e)]
  exact e
 ·obtain⟨more,e⟩:=I.base.tbls b ps q
  exact⟨more,by rw[upd_ne (ne e)];exact e⟩
 ·rw[upd_ne (Ne.symm hL)]
  exact I.free
 ·rw[upd_ne (hc x c q)]
  exact I.freeC x c q
 ·obtain⟨e1,e2,e3⟩:=I.pin p q
  exact⟨e1,by rw[upd_ne (hp p q)];exact e2,e3⟩
 ·by_cases hb:b=a
  ·subst hb
   rw[upd_same]at q
   cases q
   exact⟨ho,trivial,⟨_,ho⟩,fun _ _ _ _=>trivial⟩
  ·rw[upd_ne hb]at q
   exact(I.hok b u q).stay (fun _ _ _ z=>z) (fun c z=>by rw[upd_ne (ne z)];exact z) fun c ys z=>by rw[upd_ne (ne z)];exact z
theorem track_same{o:Obj}(hn:H a=none):Same H (upd H a (kn o)):=fun b u q=>by
 rw[upd_ne (fun z=>by rw[z,hn]at q;cases q)]
 exact q
theorem Inv.goes{i:Nat}{n:Str}{m:Str->Option Value}{v:Option Value}{h':Heap}{t':Nat}(I:Inv X pins σ H s)(hN:X.N.Nodup)(hi:X.N[i]?=some n)(hm:s.heap.Ns X.env.locals m/\∀(j:Nat)(x:Str)(w:V),X.N[j]?=some x->σ[j]?=some (some w)->Vis X.env.scope x->∃u,RelV w u/\Look X.env s.heap m x u)
  (hn:h'.Ns X.env.locals fun x=>if x=n then v else m x) (hs:Heap.SameBut X.env.locals s.heap h'):Inv X pins (σ.set i none) H {s with heap:=h',toks:=t' }:=by
 have nL:∀b o,X.s₀.heap.get? b=some o->b≠X.env.locals:=fun b o q=>Nat.ne_of_lt (Nat.lt_of_lt_of_le (Heap.lt_size q) I.ok.above)
 have cne:=I.cne
 refine⟨I.ok,I.os,I.bare,⟨fun b o q z hb hx=>(hs.2 b (nL b o q)).trans (I.base.keep b o q z hb hx),fun b o q z hb hx=>?_,I.base.free,fun b o q hx=>?_,I.base.tups,I.base.frzs,I.base.tbls⟩,⟨_,hn,fun j y w e1 e2 e3=>?_⟩,fun y c q=>?_,I.free,I.freeC,fun p hp=>?_,fun b u q=>?_,by simpa using I.len⟩
 ·obtain⟨sl,e1⟩:=I.base.slot b o q z hb hx
  exact⟨sl,(hs.2 b (nL b o q)).trans e1⟩
 ·obtain⟨o',e1⟩:=I.base.there b o q hx
  exact⟨o',(hs.2 b (nL b o q)).trans e1⟩
 ·by_cases hj:j=i
  ·subst hj
   have:(σ.set j none)[j]?=some (some w):=e2
   rw[List.getElem?_set]at this
   split at this
   ·split at this<;>cases this
   ·rename_i hh;exact absurd rfl hh
  ·rw[List.getElem?_set_ne (Ne.symm hj)]at e2
   obtain⟨u',r',q⟩:=hm.2 j y w e1 e2 e3
   refine⟨u',r',?_⟩
   rcases q with ⟨k,e⟩|⟨k,c,e,z⟩
   ·refine .inl ⟨k,?_⟩
    have:y≠n:=fun e=>hj (nodup_ix hN e1 (e ▸ hi))
    simp[this,e]
   ·exact .inr ⟨k,c,e,z.sameBut hs (cne y c e)⟩
 ·obtain⟨w',z⟩:=I.cell y c q
  exact⟨w',z.sameBut hs (cne y c q)⟩
 ·obtain⟨e,n',ne,nf,d⟩:=I.pin p hp
  exact⟨(hs.2 p.1 ne).trans e,n',ne,nf,d⟩
 ·refine(I.hok b u q).stay (fun c w' hc z=>(hs.2 c ?_).trans z) (fun _ z=>z) fun _ _ z=>z
  rintro rfl
  rcases hc with hc|hc
  ·rw[← hc]at q;rw[I.free]at q;cases q
  ·rw[I.free]at hc;cases hc
abbrev Cx.caught(X:Cx)(a:Addr)(E:Value->Shared->Prop):Cx:={X with A:=X.A.mark (some (.ref a)),calm:=false,xe:=E}
theorem Inv.caught{E:Value->Shared->Prop}(I:Inv X pins σ H s)(a:Addr):Inv (Cx.caught X a E) pins σ H s :=
 ⟨⟨I.ok.mod,I.ok.kind,I.ok.glob,I.ok.blt,I.ok.above,I.ok.inj,I.ok.has,I.ok.cab,fun z=>(by cases z),I.ok.frames,I.ok.stk,I.ok.exf,I.ok.bs,I.ok.bsz,I.ok.noex,I.ok.exfs,I.ok.funs,I.ok.frf⟩,I.os,I.bare,I.base,I.loc,I.cell,I.free,I.freeC,I.pin,I.hok,I.len⟩
theorem Inv.uncaught{E:Value->Shared->Prop}(ok:X.Ok)(I:Inv (Cx.caught X a E) pins σ H s):Inv X pins σ H s :=
 ⟨ok,I.os,I.bare,I.base,I.loc,I.cell,I.free,I.freeC,I.pin,I.hok,I.len⟩
theorem catch_at{C CY:Addr}{dx:Option Addr}{y n kept:Str}{i j:Nat}{np p1 p2 p3 hpos:Pos}{Q:Flow->Shared->Prop}{E:Value->Shared->Prop}(D:DefCx X)(I:Inv X pins σ H s)(F:Fly X.prog X.w X.stack H s H' a (.ref C) s')(da:DAt s'.heap a dx)
  (hN:X.N.Nodup) (hi:X.N[i]?=some n) (hj:X.N[j]?=some kept) (hij:j≠i) (hln:X.env.scope.names.lookup n=some .local) (hlk:X.env.scope.names.lookup kept=some .local) (hg:Gl X y) (hm:X.mg y=some (.ref CY))
  (ex:PySem.W.exmOne X.K (.ref C) (.ref CY)=some true) (hdy:(y==("__debug__" : Str))=false) (hdn:(n==("__debug__" : Str))=false) (hcn:(n==("__classdict__" : Str))=false)
  (hQ:∀s7 H7 o,Inv X pins ((σ.set j (some (.ref a))).set i none) H7 s7->Same H' H7->H7 a=some (kn o)->o.cls=.ref C->(∃ws,o.data=.fields ws)->o.dict=dx->Q .next s7) :
  wpAny (model X.prog X.w) X.A (noteFrame (.ref a) X.env) (fun _ s2=>wpAny (model X.prog X.w) X.A (setFlight (.ref a) none) (fun _ s3 =>
   wpAny (model X.prog X.w) X.A (handleBy (.ref a) X.env [.ExceptHandler (some (.Name y np)) (some n) [.Assign [.Name kept p1] (.Name n p2) p3] hpos]) Q E s3) E s2) E s':=by
 obtain⟨B,a0,fl,tB,oB⟩:=F.fly
 have hfr:X.A.frames=some (X.env::X.outer):=by rw[I.ok.frames,D.stk]
 have fl0:Heap.FlyingW B (X.env::X.outer) a (.ref C) a0 s'.heap:=by rw[← D.stk];exact fl
 refine noteD hfr D.frame fl0 da fun h4 held sm4 da4=>?_
 refine landD (s:={s' with heap:=h4}) held.1 held.2.1 held.2.2.1 held.2.2.2 da4 fun h5 fl5 sm5 da5=>?_
 have I5:Inv X pins σ H' {s' with heap:=h5}:=land_inv I F fl tB oB fl5.1 (sm4.trans sm5)
 obtain⟨ob,hob,hobc⟩:=fl5.there
 refine wpAny_handleBy_cons (codeAny_handlers_test (ld_glob (Inv.caught (E:=E) I5 a) hg hm ?_ hdy)) (by intro q;cases q)
 have LT:PySem.W.Looks (model X.prog X.w) h5 (typeOf (.ref a)) (.ref C):=hobc ▸ (PySem.W.Looks.ld hob).andThen .now
 refine(PySem.W.exm_one (M:=model X.prog X.w) I5.kIn LT ex).here ?_
 refine codeAny_handlers_suite_as ?_
 refine landD (s:={s' with heap:=h5}) fl5.1 fl5.2.1 fl5.2.2.1 fl5.2.2.2.at da5 fun h6 fl6 sm6 da6=>?_
 have I6:Inv X pins σ H' {s' with heap:=h6}:=land_inv I F fl tB oB fl6.1 ((sm4.trans sm5).trans sm6)
 obtain⟨oe,ws,Tb,oT,tsT,hoe,hoc,hod,_⟩:=fl6.2.2.2
 have hdx:oe.dict=dx:=by
  obtain⟨o9,q9,r9⟩:=da6
  rw[hoe]at q9
  cases q9
  exact r9
 have new0:X.s₀.heap.get? a=none:=by
  cases q:X.s₀.heap.get? a with
  | none=>rfl
  | some o =>
   obtain⟨o1,e1⟩:=I.base.there a o q (by rw[D.ex];simp)
   rw[F.new]at e1
   cases e1
 have lt0:∀{b:Addr}{o:Obj},s.heap.get? b=some o->b≠a:=fun q z=>by rw[z,F.new]at q;cases q
 obtain⟨mL,hnL,_⟩:=I.loc
 obtain⟨oL,esL,epL,hoL,_⟩:=id hnL
 have It:Inv X pins σ (upd H' a (kn oe)) {s' with heap:=h6}:=Inv.track I6 F.non hoe new0 (Ne.symm (lt0 hoL)) (fun x c q=>by obtain⟨v,o,e,_⟩:=I.cell x c q;exact lt0 e) fun p hp=>lt0 (I.pin p hp).1
 have Ic:=Inv.caught (E:=fun _ _=>False) It a
 refine store_ok (X:=Cx.caught X a fun _ _=>False) Ic hN hi (.inl hln) (v:=.ref a) rfl (fun s8 I8=>?_) (.inr hln)
 have hn8:((σ.set i (some (V.ref a)))[i]?)=some (some (.ref a)):=List.getElem?_set_self (by rw[I.len];exact(List.getElem?_eq_some_iff.mp hi).1)
 have ps:PSs (Cx.caught X a fun _ _=>False) [.Assign [.Name kept p1] (.Name n p2) p3] (tAsg (tVar i) (gName j)):=pss_one (ps_set (X:=Cx.caught X a fun _ _=>False) hN hj (.inl hlk) (pe_var hi (.inl hln) hdn hcn) rfl (.inr hlk))
 have z:=ps pins s8 _ _ {nx:=fun σ' H9=>σ'=(σ.set i (some (V.ref a))).set j (some (.ref a))/\H9=upd H' a (kn oe),rt:=fun _ _=>False} I8 ⟨.ref a,hn8,rfl,rfl⟩
 refine wpAny_mono z (fun f s9 h9=>?_) fun x s9 h9=>?_
 ·cases f with
  | next =>
   obtain⟨σ9,H9,I9,rfl,rfl⟩:=h9
   have I9':Inv X pins ((σ.set i (some (V.ref a))).set j (some (.ref a))) (upd H' a (kn oe)) s9:=Inv.uncaught I.ok I9
   obtain⟨m9,hn9,hl9⟩:=I9'.loc
   have hcls:(X.env.scope.kind == .class||(X.env.scope.kind == .module&&X.env.locals != X.env.globals))=false:=by rw[I.ok.kind];rfl
   refine wpAny_nameGoes_keeps hln hn9 hcls fun h10 v hns hsb=>?_
   have I10:=Inv.goes (t':=s9.toks + 1) I9' hN hi ⟨hn9,hl9⟩ hns hsb
   have es:(((σ.set i (some (V.ref a))).set j (some (.ref a))).set i none)=(σ.set j (some (.ref a))).set i none:=by
    rw[List.set_comm _ _ (Ne.symm hij),List.set_set]
   rw[es]at I10
   exact hQ _ _ oe I10 (track_same F.non) upd_same hoc.1 ⟨ws,hod⟩ hdx
  | brk=>obtain⟨_,_,_,z⟩:=h9;exact z.elim
  | cont=>obtain⟨_,_,_,z⟩:=h9;exact z.elim
  | ret u=>obtain⟨_,_,_,_,_,z⟩:=h9;exact z.elim
 ·exact False.elim h9
end
section
variable {X:Cx} {e:Expr} {es:List Expr} {ws:WA} {pos:Pos}
theorem RepSt.gone{K:PySem.W.Frag}{H0 H:Hp}{σ:St}{τ:List Slot}{i:Nat}(R:RepSt K H0 H σ τ):RepSt K H0 H (σ.set i none) (sput τ i .no):=by
 have nown:∀c ts,sget (sput τ i .no) c=.own ts->i≠c/\sget τ c=.own ts:=fun c ts h=>by
  by_cases hc:i=c
  ·subst hc
   by_cases hi:i < τ.length
   ·rw[sget_same hi]at h;cases h
   ·rw[sget_big (by rw[length_sput];omega)]at h;cases h
  ·rw[sget_ne hc]at h
   exact⟨hc,h⟩
 refine⟨R.same,by rw[length_sput,List.length_set];exact R.len,fun j=>?_,fun a b ts us p hab ha hb ea eb=>?_⟩
 ·by_cases hij:i=j
  ·subst hij
   by_cases hi:i < τ.length
   ·rw[sget_same hi];trivial
   ·rw[sget_big (by rw[length_sput];omega)];trivial
  ·rw[sget_ne hij,List.getElem?_set_ne hij]
   exact R.slot j
 ·obtain⟨na,ha⟩:=nown a ts ha
  obtain⟨nb,hb⟩:=nown b us hb
  rw[List.getElem?_set_ne na]at ea
  rw[List.getElem?_set_ne nb]at eb
  exact R.apart a b ts us p hab ha hb ea eb
theorem call_at{k:Nat}{ps:List Str}{S:SpX}{x:Str}{p:Pos}(C:CalX X.prog X.w X.K X.mg X.base k x ps S)(hx0:∀e s,X.xe e s->False)(hr:Room k X.A)(hg:Gl X x)(ha:JA X (e::es) ws) (hdb:(x==("__debug__" : Str))=false)
  (he:starEach (e::es) X.env=(false,eval e X.env)::starEach es X.env) (hpl:(backTo pos (starEach es X.env)).any (·.1)=false)
  {pins:List (Addr×Obj)} {s:Shared} {σ:St} {H:Hp} {Q:VK} {R Q0:T->Prop} {E:Value->Shared->Prop} {τ:List Slot} (I:Inv X pins σ H s) (R0:RepSt X.K X.H₀ H σ τ) (hw:wCall (S R) ws τ Q0)
  (kq:∀t v H',Same H H'->Rep X.K H' t v->Q0 t->Q v H')
  (hE:∀H1 H' s1 s' a C dx,Inv X pins σ H1 s1->Same H H1->Fly X.prog X.w X.stack H1 s1 H' a (.ref C) s'->DAt s'.heap a dx->Same H1 H'->wishF X.K R C dx H'->E (.ref a) s') :
  wpAny (model X.prog X.w) X.A (eval (.Call (.Name x p) (e::es) [] pos) X.env) (EP X pins σ Q) E s:=by
 obtain⟨f,fd,F,hb,hk,hm⟩:=C
 refine wpAny_Call_Name_kw (ld_glob I hg hm ?_ hdb)
 have arg:=wpAny_mono (ha pos pins s σ H (fun vs H1=>∃ts,Same H H1/\Reps X.K H1 ts vs/\S R ts Q0) I ⟨τ,_,R0,hw,fun ts vs H1 S1 r q=>⟨ts,S1,r,q⟩⟩) (fun _ _ z=>z) (E':=E) fun e s z=>(hx0 e s z).elim
 refine PySem.W.callWith_K (h₀:=X.base) I.ok.mod.kin hk (thn arg fun us s1 ⟨vs,H1,I1,r,ts,S1,rr,q⟩=>⟨I1.kIn,?_⟩) he hpl
 exact run_at F hr hb (fun a C dx H' s' fl da S2 h1=>hE H1 H' s1 s' a C dx I1 S1 fl da S2 h1) I1 r rr q fun t v H' S2 r2 q2=>kq t v H' (S1.trans S2) r2 q2
def JB(X:Cx)(st:Stmt)(t:(T->Prop)->WS):Prop:=∀(pins:List (Addr×Obj))(s:Shared)(σ:St)(H:Hp)(D:Ends)(R:T->Prop)(E:Value->Shared->Prop)(τ:List Slot)(D0:DT),Inv X pins σ H s->RepSt X.K X.H₀ H σ τ->t R D0 τ →
 (∀τ' σ' H',Kp H H'->RepSt X.K X.H₀ H' σ' τ'->D0.nx τ'->D.nx σ' H') →
 (∀H1 H' s1 s' a C dx,Inv X pins σ H1 s1->Same H H1->Fly X.prog X.w X.stack H1 s1 H' a (.ref C) s'->DAt s'.heap a dx->Same H1 H'->wishF X.K R C dx H'->E (.ref a) s') →
 wpAny (model X.prog X.w) X.A (exec st X.env) (fun f s'=>f=.next/\SP X pins D .next s') E s
theorem jbSet{k:Nat}{ps:List Str}{S:SpX}{x y:Str}{i:Nat}{p yp spos:Pos}(hN:X.N.Nodup)(hi:X.N[i]?=some y)(hy:Loc X.env.scope y)(C:CalX X.prog X.w X.K X.mg X.base k x ps S)(hx0:∀e s,X.xe e s->False)(hr:Room k X.A)(hg:Gl X x)(ha:JA X (e::es) ws) (hdb:(x==("__debug__" : Str))=false:=by decide)
  (he:starEach (e::es) X.env=(false,eval e X.env)::starEach es X.env:=by exact star1 rfl) (hpl:(backTo pos (starEach es X.env)).any (·.1)=false:=by exact stars rfl)
  (hs:swapsWith (.Call (.Name x p) (e::es) [] pos) (some (.Name y yp)) spos.line X.env=pure false:=by rfl) (hf:X.fn y=true∨X.env.scope.names.lookup y=some .local:=by first|exact .inl rfl|exact .inr rfl|assumption) :
  JB X (.Assign [.Name y yp] (.Call (.Name x p) (e::es) [] pos) spos) (fun R=>sSet i (wCall (S R) ws)):=by
 intro pins s σ H D R E τ D0 I R0 hw kn hE
 refine wpAny_Assign_Name (thn (call_at C hx0 hr hg ha hdb he hpl I R0 hw (Q:=fun v H'=>∃t,Same H H'/\Rep X.K H' t v/\D0.nx (sput τ i (.val t))) (fun t v H' S1 r q=>⟨t,S1,r,q⟩) hE) fun v s1 ⟨z,H1,I1,r1,t,S1,rt,q1⟩=>?_) hs
 exact store_ok I1 hN hi hy r1 (fun s2 I2=>⟨rfl,_,H1,I2,kn _ _ H1 (.of S1) ((R0.mono S1).put rt) q1⟩) hf
def Catches(K:PySem.W.Frag)(mg:Str->Option Value)(y:Str)(cs:List Str):Prop:=∃CY,mg y=some (.ref CY)/\∀c∈cs,∀C,clsAt K c C->PySem.W.exmOne K (.ref C) (.ref CY)=some true
def sTry(tb:(T->Prop)->WS)(i j:Nat)(cs:List Str):WS:=fun D τ=>tb (fun x=>match x with | .exc c=>c∈cs/\D.nx (sput (sput τ j (.val (.exc c))) i .no) | .exf c f t=>c∈cs/\D.nx (sput (sput τ j (.val (.exf c f t))) i .no)|_=>False) D τ
theorem jtry{tb:(T->Prop)->WS}{st:Stmt}{y n kept:Str}{i j:Nat}{np p1 p2 p3 hpos:Pos}{cs:List Str}(D:DefCx X)(G:Catches X.K X.mg y cs)(hN:X.N.Nodup)(hi:X.N[i]?=some n)(hj:X.N[j]?=some kept)(hij:j≠i)(hln:X.env.scope.names.lookup n=some .local)(hlk:X.env.scope.names.lookup kept=some .local)
  (hg:Gl X y) (hb:JB X st tb) (hdy:(y==("__debug__" : Str))=false:=by decide) (hdn:(n==("__debug__" : Str))=false:=by decide) (hcn:(n==("__classdict__" : Str))=false:=by decide) :
  JS X (.Try [st] [.ExceptHandler (some (.Name y np)) (some n) [.Assign [.Name kept p1] (.Name n p2) p3] hpos] [] [] pos) (sTry tb i j cs):=by
 obtain⟨CY,hm,hcs⟩:=G
 intro pins s σ H Dn I ⟨τ,D0,R0,hw,kn,kr,kb,kc⟩
 refine wpAny_Try_except ?_
 have body:=hb pins s σ H Dn _ (fun e s1=>wpAny (model X.prog X.w) X.A (noteFrame e X.env) (fun _ s2=>wpAny (model X.prog X.w) X.A (setFlight e none) (fun _ s3=>wpAny (model X.prog X.w) X.A (handleBy e X.env [.ExceptHandler (some (.Name y np)) (some n) [.Assign [.Name kept p1] (.Name n p2) p3] hpos]) (SP X pins Dn) X.xe s3) X.xe s2) X.xe s1) τ D0 I R0 hw kn ?_
 ·refine wpAny_execs_cons (thn body fun f s1 h1=>?_)
  obtain⟨rfl,h1⟩:=h1
  exact wpAny_execs_nil (wpAny_execs_nil h1)
 ·intro H1 H' s1 s' a C dx I1 S1 fl da S2 ⟨c,h1,hw1⟩
  cases dx with
  | none =>
   obtain⟨hc,hq⟩:=hw1
   refine catch_at D I1 fl da hN hi hj hij hln hlk hg hm (hcs c hc C h1) hdy hdn hcn fun s7 H7 o I7 S7 e7 oc ⟨ws',od⟩ _=>?_
   have SS:=S1.trans (S2.trans S7)
   exact⟨_,H7,I7,kn _ _ H7 (.of SS) (((R0.mono SS).put (rep_exc.mpr ⟨a,rfl,⟨o,C,ws',e7,oc,od,h1⟩⟩)).gone) hq⟩
  | some d =>
   obtain⟨f,t,od0,u,v,hd,hl,hu,hr,hc,hq⟩:=hw1
   refine catch_at D I1 fl da hN hi hj hij hln hlk hg hm (hcs c hc C h1) hdy hdn hcn fun s7 H7 o I7 S7 e7 oc ⟨ws',od⟩ ed=>?_
   have SS:=S1.trans (S2.trans S7)
   exact⟨_,H7,I7,kn _ _ H7 (.of SS) (((R0.mono SS).put (rep_exf.mpr ⟨a,rfl,d,od0,u,v,⟨⟨o,C,ws',e7,oc,od,ed,h1⟩,S7 d _ hd,hl⟩,hu,hr.kp (.of S7)⟩)).gone) hq⟩
end
theorem look_ns1{h:Heap}{d:Addr}{m:Str->Option Value}{f:Str}{u:Value}(n:h.Ns1 d m)(e:m f=some u):∃od,h.get? d=some od/\PySem.W.lookIn f od=some (some u):=by
 obtain⟨o,es,ep,ho,hd,_,_,hf⟩:=n
 refine⟨o,ho,?_⟩
 have z:=(hf f).trans e
 unfold nsFind findBy at z
 rw[← Array.find?_toList]at z
 unfold PySem.W.lookIn
 rw[hd]
 dsimp only
 cases q:es.toList.find? (fun e=>e.key.isStr f) with
 | none=>rw[q]at z;cases z
 | some en=>rw[q]at z;exact congrArg some z
theorem ns_of{K:PySem.W.Frag}{h:Heap}{N:Addr}{mg:Str->Option Value}{n:Str}{v:Value}(X:K.In h)(G:h.Ns N mg)(e:PySem.W.nsIn K N n=some (some v)):mg n=some v:=by
 obtain⟨o,es,ep,ho,hd,_,hf⟩:=G
 unfold PySem.W.nsIn at e
 split at e
 ·rename_i c d es' n' sl q
  have z:=X _ _ q
  rw[ho]at z
  cases z
  cases hd
  split at e
  ·rename_i en he
   cases e
   rw[← hf]
   unfold nsFind findBy
   rw[← Array.find?_toList,he]
   rfl
  ·split at e<;>cases e
 ·cases e
def ownIn(K:PySem.W.Frag)(C fI:Addr):Bool:=match K.lookup C with
 | some ⟨.type "type", _,.cls cd,sl⟩=>(match cd.mro,sl.toList with
  | .ref C'::bm,[_,_,_,_,some (.builtin n),_]=>C'==C&&n == "ValueError.__new__" && !cd.hasDel&&PySem.W.tailIn K mroVE bm&&PySem.W.nsOkIn K cd.ns&&PySem.W.nsIn K cd.ns "__init__" == some (some (.ref fI))
  | _,_=>false)
 | _=>false
theorem own_at{K:PySem.W.Frag}{h:Heap}{C fI:Addr}(kin:K.In h)(q:ownIn K C fI=true) :
  ∃bm N nm qn bb hd sn sub ab col dd k0 k1 k2 k3 k5 mN,h.get? C=some (excClassObj nm qn C N bb bm hd sn sub ab col dd k0 k1 k2 k3 k5 "ValueError.__new__")/\h.Ns N mN/\mN "__init__" = some (.ref fI)/\OwnTail h mroVE bm:=by
 unfold ownIn at q
 split at q
 case h_2=>cases q
 rename_i dd cd sl look
 split at q
 case h_2=>cases q
 rename_i C1 bm k0 k1 k2 k3 n k5 em es
 rw[Bool.and_eq_true,Bool.and_eq_true,Bool.and_eq_true,Bool.and_eq_true,Bool.and_eq_true]at q
 obtain⟨⟨⟨⟨⟨e1,e2⟩,e3⟩,e4⟩,e5⟩,e6⟩:=q
 have e1:=beq_iff_eq.mp e1
 have e2:=beq_iff_eq.mp e2
 have e6:=beq_iff_eq.mp e6
 have obj:=kin _ _ look
 obtain⟨f1,f2,f3,f4,f5,f6,f7,f8,f9,f10,f11⟩:=cd
 have e3:f11=false:=by simpa using e3
 have em:f3=.ref C1::bm:=em
 have hs:sl=#[k0,k1,k2,k3,some (.builtin n),k5]:=by
  cases sl with
  | mk l=>exact congrArg Array.mk es
 rw[hs,em,e3,e1,e2]at obj
 have G:h.Ns f4 (h.nsMap f4):=.of_isNs (PySem.W.isNs_of_in kin e5)
 exact⟨bm,f4,f1,f5,f2,f6,f7,f8,f9,f10,dd,k0,k1,k2,k3,k5,h.nsMap f4,obj,G,ns_of kin G e6,PySem.W.tail_of_in kin e4⟩
structure IniAt(K:PySem.W.Frag)(mg:Str->Option Value)(c f:Str)(st:Stmt)(qual slf x y m:Str)(C CY fI:Addr)(mc:Value)(cd:ClassData)(rs:List Addr)(pl:Env->Sem Bool)(p1 p2 p3 p4 p5 p6 p7 p8 p9 r1 r2 r3 r4:Pos)(k:Nat)(fd:FuncData):Prop where
 cl:clsAt K c C
 mcl:mg c=some (.ref C)
 own:ownIn K C fI=true
 fn:Fun K "__init__" qual st fI fd
 fc:∃o,K.lookup fI=some o/\o.cls=.type "function"
 bd:Binds K fd [slf,x] []
 body:defBody st=[.Expr (.Call (.Attribute (.Name y p1) "__init__" p2) [.Name slf p3,.JoinedStr [.Constant (.str m) k p4,.FormattedValue (.Name x p5) 114 none p6] p7] [] p8) p9,.Assign [.Attribute (.Name slf r1) f r2] (.Name x r3) r4]
 sc:FnScope [slf,x] [slf,x] (defScope st)
 v0:Vis (defScope st) slf
 v1:Vis (defScope st) x
 gl:(defScope st).names.lookup y=some .globalImplicit
 my:mg y=some (.ref CY)
 sp:PySem.W.specialIn K (.ref CY) "__getattribute__" = some (some (.builtin "type.__getattribute__"))
 rd:PySem.W.readsIn K CY mc=true
 fk:PySem.W.findCls K (.ref CY) mc "__init__" = some (.val (.builtin "ValueError.__init__"))
 sa:PySem.W.findIn K (.ref C) "__setattr__" = some (some (.builtin "object.__setattr__"))
 na:PySem.W.findIn K (.ref C) f=some none
 ci:PySem.W.clsIn K C=some cd
 mro:cd.mro=rs.map Value.ref++mroVE
 hd:cd.hasDict=true
 ml:m.length<=1000
 dy:(y==("__debug__" : Str))=false
 d0:(slf==("__debug__" : Str))=false
 c0:(slf==("__classdict__" : Str))=false
 d1:(x==("__debug__" : Str))=false
 c1:(x==("__classdict__" : Str))=false
 ht:∀env:Env,eval (.Call (.Attribute (.Name y p1) "__init__" p2) [.Name slf p3,.JoinedStr [.Constant (.str m) k p4,.FormattedValue (.Name x p5) 114 none p6] p7] [] p8) env=(do
   let ov ← eval (.Name y p1) env
   standAt p2.atName
   let (f,first) ← holding [ov] (getMethod ov "__init__" (pl env))
   callWith p8 f first (backTo p8 (starEach [.Name slf p3,.JoinedStr [.Constant (.str m) k p4,.FormattedValue (.Name x p5) 114 none p6] p7] env)) (backToKw p8 (keywordEach [] env)))
 sw:∀env:Env,swapsWith (.Name x r3) (some (.Attribute (.Name slf r1) f r2)) r4.line env=pure false
def FldCls(K:PySem.W.Frag)(mg:Str->Option Value)(c f:Str):Prop:=∃(st:Stmt) (qual self x y m:Str) (C CY fI:Addr) (mc:Value) (cd:ClassData) (rs:List Addr) (pl:Env->Sem Bool) (p1 p2 p3 p4 p5 p6 p7 p8 p9 r1 r2 r3 r4:Pos) (k:Nat) (fd:FuncData),
 IniAt K mg c f st qual self x y m C CY fI mc cd rs pl p1 p2 p3 p4 p5 p6 p7 p8 p9 r1 r2 r3 r4 k fd
theorem ini_fld{K:PySem.W.Frag}{mg:Str->Option Value}{c f:Str}{st:Stmt}{qual slf x y m:Str}{C CY fI:Addr}{mc:Value}{cd:ClassData}{rs:List Addr}{pl:Env->Sem Bool}{p1 p2 p3 p4 p5 p6 p7 p8 p9 r1 r2 r3 r4:Pos}{k:Nat}{fd:FuncData}
  (a1:clsAt K c C) (a2:mg c=some (.ref C)) (a3:ownIn K C fI=true) (a4:Fun K "__init__" qual st fI fd) (a5:∃o,K.lookup fI=some o/\o.cls=.type "function") (a6:Binds K fd [slf,x] [])
  (a7:defBody st=[.Expr (.Call (.Attribute (.Name y p1) "__init__" p2) [.Name slf p3,.JoinedStr [.Constant (.str m) k p4,.FormattedValue (.Name x p5) 114 none p6] p7] [] p8) p9,.Assign [.Attribute (.Name slf r1) f r2] (.Name x r3) r4])
  (a8:FnScope [slf,x] [slf,x] (defScope st)) (a9:Vis (defScope st) slf) (b1:Vis (defScope st) x) (b2:(defScope st).names.lookup y=some .globalImplicit) (b3:mg y=some (.ref CY))
  (b4:PySem.W.specialIn K (.ref CY) "__getattribute__" = some (some (.builtin "type.__getattribute__"))) (b5:PySem.W.readsIn K CY mc=true) (b6:PySem.W.findCls K (.ref CY) mc "__init__" = some (.val (.builtin "ValueError.__init__")))
  (b7:PySem.W.findIn K (.ref C) "__setattr__" = some (some (.builtin "object.__setattr__"))) (b8:PySem.W.findIn K (.ref C) f=some none) (b9:PySem.W.clsIn K C=some cd) (c1:cd.mro=rs.map Value.ref++mroVE) (c2:cd.hasDict=true) (c3:m.length<=1000)
  (c4:(y==("__debug__" : Str))=false) (c5:(slf==("__debug__" : Str))=false) (c6:(slf==("__classdict__" : Str))=false) (c7:(x==("__debug__" : Str))=false) (c8:(x==("__classdict__" : Str))=false)
  (c9:∀env:Env,eval (.Call (.Attribute (.Name y p1) "__init__" p2) [.Name slf p3,.JoinedStr [.Constant (.str m) k p4,.FormattedValue (.Name x p5) 114 none p6] p7] [] p8) env=(do
   let ov ← eval (.Name y p1) env
   standAt p2.atName
   let (f,first) ← holding [ov] (getMethod ov "__init__" (pl env))
   callWith p8 f first (backTo p8 (starEach [.Name slf p3,.JoinedStr [.Constant (.str m) k p4,.FormattedValue (.Name x p5) 114 none p6] p7] env)) (backToKw p8 (keywordEach [] env))))
  (d1:∀env:Env,swapsWith (.Name x r3) (some (.Attribute (.Name slf r1) f r2)) r4.line env=pure false):FldCls K mg c f :=
 ⟨st,qual,slf,x,y,m,C,CY,fI,mc,cd,rs,pl,p1,p2,p3,p4,p5,p6,p7,p8,p9,r1,r2,r3,r4,k,fd,a1,a2,a3,a4,a5,a6,a7,a8,a9,b1,b2,b3,b4,b5,b6,b7,b8,b9,c1,c2,c3,c4,c5,c6,c7,c8,c9,d1⟩
def inSt:Stmt->Stmt
 | .ClassDef _ _ _ (s::_) _ _ _ _ _ _ _=>s
 | s=>s
def FldT:T->Prop
 | .int i=>i.natAbs.log2 < 1920
 | .non=>True
 | .str x=>(reprText x).length<=100000
 | _=>False
theorem fld_says{K:PySem.W.Frag}{H:Hp}{t:T}{v:V}{m:Str}(h:FldT t)(r:Rep K H t v)(hm:m.length<=1000):Says v/\(Str.empty++m).length<=sizeLine/\(Str.empty++m++txtV v).length<=sizeLine/\∀H',Rep K H' t v:=by
 have em:∀a b:Str,(a++b).length=a.length + b.length:=fun a b=>Str.length_append a b
 have e0:Str.empty.length=0:=rfl
 have l1:(Str.empty++m).length<=sizeLine:=by rw[em,e0,sizeLine_eq];omega
 cases t with
 | int i =>
  obtain rfl:=rep_int.mp r
  refine⟨h,l1,?_,fun H'=>rep_int.mpr rfl⟩
  have e:=int_text_length_le (k:=1920) (by decide) h
  rw[em,em,e0,sizeLine_eq]
  show 0 + m.length + (Str.ofString (toString i)).length<=_
  rw[PySem.ofString_length]
  omega
 | non =>
  obtain rfl:=rep_non.mp r
  refine⟨trivial,l1,?_,fun H'=>rep_non.mpr rfl⟩
  rw[em,em,e0,sizeLine_eq]
  show 0 + m.length + ("None" : Str).length<=_
  have:("None" : Str).length=4:=by decide
  omega
 | str x =>
  obtain rfl:=rep_str.mp r
  have h:(reprText x).length<=100000:=h
  refine⟨?_,l1,?_,fun H'=>rep_str.mpr rfl⟩
  ·show (reprText x).length<=sizeLine
   rw[sizeLine_eq]
   omega
  ·rw[em,em,e0,sizeLine_eq]
   show 0 + m.length + (reprText x).length<=_
   omega
 | _=>exact h.elim
def sRaiseF(R:T->Prop)(c f:Str)(wa:WE):WS:=fun _ τ=>wa τ fun t=>FldT t/\R (.exf c f t)
section
variable {X:Cx} {e:Expr} {wa:WE} {pos:Pos}
theorem jraiseF{R:T->Prop}{c f:Str}{np cpos:Pos}{k:Nat}(G:FldCls X.K X.mg c f)(tk:Takes X R)(hca:X.calm=true)(hr:Room (k + 2) X.A)(hg:Gl X c)(ha:JE X e wa) (dc:(c==("__debug__" : Str))=false:=by decide)
  (he:starEach [e] X.env=(false,eval e X.env)::starEach [] X.env:=by exact star1 rfl) (hpl:(backTo cpos (starEach [e] X.env)).any (·.1)=false:=by exact stars rfl) :
  JS X (.Raise (some (.Call (.Name c np) [e] [] cpos)) none pos) (sRaiseF R c f wa):=by
 obtain⟨st,qual,self,x,y,m,C,CY,fI,mc,cd,rs,pl,p1,p2,p3,p4,p5,p6,p7,p8,p9,r1,r2,r3,r4,kk,fd,G⟩:=G
 obtain⟨oc,od,kV,doc,pm,an,cdv,ct,osl,rfl,lk,hcd⟩:=G.fn.ex
 obtain⟨oI,lkI,hcl⟩:=G.fc
 intro pins s σ H D I ⟨τ,D0,R0,hw,_⟩
 obtain⟨bm,N,nm,qn,bb,hd,sn,sub,ab,col,dd,k0,k1,k2,k3,k5,mN,hC,hN,hi,TT⟩:=own_at I.ok.mod.kin G.own
 have bd:=G.bd
 have ex0:=tk.ex
 rw[G.body]at lk bd
 refine raise_at (P:=fun v H1=>∃t,Same H H1/\Rep X.K H1 t v/\FldT t/\R (.exf c f t)) PySem.F.excBase_ValueError (by decide) (TT.hasType rfl) hC hN hi (I.ok.mod.kin _ _ lkI) hcl TT I hca hg G.mcl ha he hpl ⟨τ,_,R0,hw,fun t v H1 S1 r q=>⟨t,S1,r,q⟩⟩ (fun s2 v u h' a H2 I2 hP ru mk le=>?_) dc
 obtain⟨t,S2,rt,ft,hR⟩:=hP
 obtain⟨sv,l1,l2,all⟩:=fld_says ft rt G.ml
 have I2':Inv X pins σ H2 {s2 with heap:=h',toks:=s2.toks}:=I2.kept mk.keeps
 have A0:=I2'.env0
 have hA:Env0 X.prog X.w X.K X.mg X.base (X.A.under (.builtin "type.__call__" ⟨[.ref C,u],[]⟩)) X.stack {s2 with heap:=h' } H2:=⟨A0.frames,A0.mod,A0.bs,A0.bsz,A0.funs,A0.frf,A0.hok,A0.bare⟩
 refine init_run (j:=k) (pl:=pl) I2 mk le ru sv lk hcd G.sc G.v0 G.v1 G.gl (hr.make C [u] []) hA PySem.F.excBase_ValueError hC TT G.my l1 l2 G.sp G.rd G.fk (by decide) G.sa G.na G.ci G.mro G.hd (bd _ _ I2'.kIn rfl) (fun s' t1 d u' ru' ld q1 q2 J=>?_) G.dy G.d0 G.c0 G.d1 G.c1 G.ht G.sw
 refine⟨rfl,⟨t1,d,q1⟩,J,?_⟩
 obtain⟨od',hod,hlk⟩:=look_ns1 (f:=f) (u:=u') q2 (by rw[if_pos rfl])
 have nd:s2.heap.get? d=none:=Heap.get?_none_of_le ld
 have ltd:∀{b:Addr}{o:Obj},s2.heap.get? b=some o->b≠d:=fun q z=>by rw[z,nd]at q;cases q
 obtain⟨mL,hnL,_⟩:=I2.loc
 obtain⟨oL,esL,epL,hoL,_⟩:=id hnL
 have hdn:=fresh_H I2 nd
 have Jt:Inv X pins σ (upd H2 d (kn od')) s':=Inv.track J hdn hod (fresh_0 I2 ex0 nd) (Ne.symm (ltd hoL)) (fun x c q=>by obtain⟨v,o,e,_⟩:=I2.cell x c q;exact ltd e) fun p hp=>ltd (I2.pin p hp).1
 have ts:Same H2 (upd H2 d (kn od')):=track_same hdn
 have nda:a≠d:=fun z=>by
  rw[z,hod]at q1
  cases q1
  cases hlk
 refine tk.new pins σ _ s' a C t1 (some d) Jt ((R0.same.trans S2).trans ts) q1 ?_ (fresh_0 I2 ex0 mk.new) ⟨c,G.cl,f,t,od',u',v,upd_same,hlk,ru',all _,hR⟩
 rw[upd_ne nda]
 exact fresh_H I2 mk.new
end
end TL
end
section
namespace TL
open PySem PySem.Spec PyProof.Rows L2
section
variable {prog:Program} {w:World} {A:Around} {E:Value->Shared->Prop} {h:Heap} {g:Array GenState} {d:Drawn} {t:Nat} {os:OsState} {a C:Addr} {o:Obj} {K:PySem.W.Frag}
structure ClsTold(K:PySem.W.Frag)(C:Addr):Prop where
 ga:PySem.W.findIn K (.ref C) "__getattribute__" = some (some (.builtin "BaseException.__getattribute__"))
 cl:PySem.W.findIn K (.ref C) "__class__" = some (some (.builtin "object.__class__"))
 no:PySem.W.findIn K (.ref C) "__getattr__" = some none
 sb:PySem.W.subIn K (.ref C) (.type "BaseException")=some true
 so:PySem.W.subIn K (.ref C) (.type "object")=some true
theorem exc_get{R:Result->Shared->Prop}(X:K.In h)(T:ClsTold K C)(hx:h.get? a=some o)(hc:o.cls=.ref C)(hq:R (.ok (.ret (.ref C))) ⟨h,g,d,t,os⟩) :
  codeAny (model prog w) A (.call (.builtin "getset_descriptor.__get__") ⟨[.builtin "object.__class__", .ref a,.ref C],[]⟩) R ⟨h,g,d,t,os⟩:=by
 have hT5:(⟨h,g,d,t,os⟩:Shared).TypeIs (.builtin "object.__class__") "getset_descriptor" := F.typeOf_object_class
 have S2:PySem.W.Looks (model prog w) h (isSubtype (.ref C) (.type (".".intercalate ("object.__class__".cutAt '.').dropLast))) true:=by
  rw[F.owner_object_class]
  exact PySem.W.looks_subIn X T.so
 refine codeAny_call_builtin F.slot_gs_get.plain F.entry_gs_get (F.slot_gs_get.check _ _ _ _ _ _ _ _ hT5 (F.args_gs_get _ _ _) ?_)
 repeat (any_goals (first|assumption|(with_reducible refine wpAny_loadPart_at hx ?_;rw[hc])|with_reducible refine S2.at ?_|wp_step))
 refine⟨Code.quiet_builtin _ (by decide +kernel),codeAny_builtin F.entry_object_class ?_⟩
 repeat (any_goals (first|assumption|(with_reducible refine wpAny_loadPart_at hx ?_;rw[hc])|wp_step))
theorem exc_entry{tk:Tok}{Q:Fin->Shared->Prop}(X:K.In h)(T:ClsTold K C)(hx:h.get? a=some o)(hc:o.cls=.ref C)(hq:Q (.done (.ret (.ref C))) ⟨h,g,d,t,os⟩) :
  wpAny (model prog w) A (Builtin.«object.__getattribute__» ⟨[.ref a,.str "__class__" tk],[]⟩) Q E ⟨h,g,d,t,os⟩:=by
 have hT5:(⟨h,g,d,t,os⟩:Shared).TypeIs (.builtin "object.__class__") "getset_descriptor" := F.typeOf_object_class
 have L1:PySem.W.Looks (model prog w) h (typeLookup (.ref C) "__class__") _:=PySem.W.looks_findIn X T.cl
 have f5:=F.typeOf_object_class
 have f6:=F.slot_gs_get.lookup
 have f7:=F.slot_gs_set.lookup
 repeat (any_goals (first|assumption|(with_reducible refine wpAny_loadPart_at hx ?_;rw[hc])|with_reducible refine L1.at ?_|wp_step))
 refine exc_get X T hx hc ?_
 repeat (any_goals (first|assumption|wp_step))
theorem exc_check{M:Model}{nameV:Value}{Q:Unit->Shared->Prop}(X:K.In h)(T:ClsTold K C)(hx:h.get? a=some o)(hc:o.cls=.ref C)(hq:Q () ⟨h,g,d,t,os⟩):wpAny M A (checkBuiltinCall "BaseException.__getattribute__" ⟨[.ref a,nameV],[]⟩) Q E ⟨h,g,d,t,os⟩:=by
 have k1:builtinKind "BaseException.__getattribute__" = some .slot:=by decide +kernel
 have k2:splitId "BaseException.__getattribute__" = some ("BaseException", "__getattribute__"):=by decide +kernel
 have S1:PySem.W.Looks M h (isSubtype (.ref C) (.type "BaseException")) true:=PySem.W.looks_subIn X T.sb
 have hargs:=F.args_bexc_ga (.ref a) nameV
 simp only[checkBuiltinCall,k1,k2]
 refine wpAny_bind ?_
 unfold isInstance
 repeat (first|(with_reducible refine wpAny_loadPart_at hx ?_;rw[hc])|with_reducible refine S1.at ?_|wp_step)
 exact hq
theorem exc_by{tk:Tok}{Q:Value->Shared->Prop}(X:K.In h)(T:ClsTold K C)(hx:h.get? a=some o)(hc:o.cls=.ref C)(hq:Q (.ref C) ⟨h,g,d,t,os⟩):wpAny (model prog w) A (getAttrBy (.ref a) (.str "__class__" tk) false) Q E ⟨h,g,d,t,os⟩:=by
 have L1:PySem.W.Looks (model prog w) h (typeLookup (.ref C) "__getattribute__") _:=PySem.W.looks_findIn X T.ga
 have L2:PySem.W.Looks (model prog w) h (typeLookup (.ref C) "__getattr__") _:=PySem.W.looks_findIn X T.no
 have f3:=F.excAttr_ValueError.ga.bind (.ref a)
 have x2:(Value.builtin "BaseException.__getattribute__" == Value.builtin "object.__getattribute__")=false:=by decide +kernel
 have x1:(onTheHeap (Value.ref C)&&Value.builtin "BaseException.__getattribute__" == Value.builtin "object.__getattribute__")=false:=by rw[x2];rfl
 repeat (any_goals (first|assumption|(with_reducible refine wpAny_loadPart_at hx ?_;rw[hc])|with_reducible refine L1.at ?_|with_reducible refine L2.at ?_|wp_step))
 refine codeAny_call_builtin F.excAttr_ValueError.ga.plain F.entry_bexc_ga (exc_check X T hx hc (exc_entry X T hx hc ?_))
 repeat (any_goals (first|assumption|wp_step))
theorem exc_attr{Q:Option Value->Shared->Prop}(X:K.In h)(T:ClsTold K C)(hx:h.get? a=some o)(hc:o.cls=.ref C)(hq:Q (some (.ref C)) ⟨h,g,d,t + 1,os⟩):wpAny (model prog w) A (getAttr? (.ref a) "__class__") Q E ⟨h,g,d,t,os⟩:=by
 unfold getAttr? getAttrBy?
 repeat (any_goals (first|assumption|with_reducible apply exc_by X T hx hc|wp_step))
end
end TL
end
section
namespace TL
open PySem PySem.Spec PyProof.Rows L2
def IsCls(K:PySem.W.Frag)(C:Addr):Prop:=∃oc od cd sl,K.lookup C=some ⟨oc,od,.cls cd,sl⟩
theorem isCls_of{K:PySem.W.Frag}{C:Addr}{bs:List Value}{id:String}(q:PySem.W.excIn K C bs id=true):IsCls K C:=by
 unfold PySem.W.excIn at q
 split at q
 ·rename_i ho;exact⟨_,_,_,_,ho⟩
 ·cases q
theorem isCls_own{K:PySem.W.Frag}{C fI:Addr}(q:ownIn K C fI=true):IsCls K C:=by
 unfold ownIn at q
 split at q
 ·rename_i ho;exact⟨_,_,_,_,ho⟩
 ·cases q
theorem kitx_exc{K:PySem.W.Frag}{a C:Addr}(T:ClsTold K C)(hC:IsCls K C):PySem.W.KitX K (.ref a) (.ref C) (fun h=>∃o,h.get? a=some o/\o.cls=.ref C):=by
 obtain⟨oc,od,cd,sl,hC⟩:=hC
 constructor
 case ty=>exact fun M h _ ⟨o,h1,h2⟩=>h2 ▸ (PySem.W.Looks.ld h1).andThen .now
 case it =>
  intro M h X _ A Q E s k q
  unfold isType loadHead
  exact wpAny_bind (wpAny_loadPart (k _ _ (X _ _ hC)) (wpAny_pure q))
 case ne =>
  intro h tp dd its n sl' X htp
  refine Bool.eq_false_iff.mpr fun q=>?_
  have e:C=tp:=Value.ref.inj (beq_iff_eq.mp q)
  subst e
  have z:=(X _ _ hC).symm.trans htp
  cases z
 case ca =>
  intro prog w A E Q s X ⟨o,h1,h2⟩ k
  obtain⟨h,g,d,t,os⟩:=s
  exact exc_attr X T h1 h2 k
section
variable {X:Cx} {e:Expr} {es:List Expr} {wa:WE} {pos:Pos}
def Ans1(K:PySem.W.Frag)(v:Value)(cs:List (Str×Bool)):Prop:=∀c b,cs.lookup c=some b->∀C,clsAt K c C->ClsTold K C/\IsCls K C/\PySem.W.kitOne K (.ref C) v=some b
def AnsN(K:PySem.W.Frag)(vs:List Value)(cs:List (Str×Bool)):Prop:=∀c b,cs.lookup c=some b->∀C,clsAt K c C->ClsTold K C/\IsCls K C/\PySem.W.kitAny K (.ref C) vs=some b
def wIsE(cs:List (Str×Bool))(wa:WE):WE:=fun τ Q=>wa τ fun t=>match t with | .exc c=>(match cs.lookup c with|some b=>Q (.bl b)|none=>False) | .exf c _ _=>(match cs.lookup c with|some b=>Q (.bl b)|none=>False)|_=>False
theorem exc_now{pins:List (Addr×Obj)}{σ:St}{H:Hp}{s:Shared}{c:Str}{p:Addr}(I:Inv X pins σ H s)(q:ExcAt X.K H c p):∃C,clsAt X.K c C/\∃o,s.heap.get? p=some o/\o.cls=.ref C:=by
 obtain⟨o,C,ws,h1,h2,h3,h4⟩:=q.ex
 exact⟨C,h4,o,(I.hok p _ h1).1,h2⟩
theorem isE_at{K:PySem.W.Frag}{H:Hp}{t:T}{v:V}{cs:List (Str×Bool)}{Q:T->Prop}(q:match t with | .exc c=>(match cs.lookup c with|some b=>Q (.bl b)|none=>False) | .exf c _ _=>(match cs.lookup c with|some b=>Q (.bl b)|none=>False)|_=>False)(r:Rep K H t v) :
  ∃p c b,v=.ref p/\ExcAt K H c p/\cs.lookup c=some b/\Q (.bl b):=by
 have look:∀c:Str,(match cs.lookup c with|some b=>Q (.bl b)|none=>False)->∃b,cs.lookup c=some b/\Q (.bl b):=fun c q=>by
  cases z:cs.lookup c with
  | none=>rw[z]at q;exact q.elim
  | some b=>rw[z]at q;exact⟨b,rfl,q⟩
 cases t with
 | exc c =>
  obtain⟨p,rfl,hp⟩:=rep_exc.mp r
  obtain⟨b,e,q⟩:=look c q
  exact⟨p,c,b,rfl,hp,e,q⟩
 | exf c f u =>
  obtain⟨p,rfl,_,_,_,_,hp,_⟩:=rep_exf.mp r
  obtain⟨b,e,q⟩:=look c q
  obtain⟨o,C,ws,h1,h2,h3,_,h4⟩:=hp.ex
  exact⟨p,c,b,rfl,⟨o,C,ws,h1,h2,h3,h4⟩,e,q⟩
 | _=>exact q.elim
theorem call_isE1{v:Value}{v':V}{cs:List (Str×Bool)}(hv:∀u,RelV v' u->u=v)(G:Ans1 X.K v cs):CallR X (.builtin "isinstance") (fun xs H Q=>∃p c b,xs=[.ref p,v']/\ExcAt X.K H c p/\cs.lookup c=some b/\Q (.bl b) H):=by
 intro pins s σ H xs us Q I r h
 obtain⟨p,c,b,rfl,hp,hl,q⟩:=h
 obtain⟨u,u',rfl,rx,r2⟩:=vals2 r
 cases rx
 obtain rfl:=hv u' r2
 obtain⟨C,hC,ho⟩:=exc_now I hp
 obtain⟨g1,g2,g3⟩:=G c b hl C hC
 exact PySem.W.kia_one (kitx_exc g1 g2) I.kIn ho g3 (fun z=>nomatch z) fun tk=>⟨.bl b,H,I.tok tk,rfl,q⟩
theorem jisO{p pc:Pos}{y:Str}{D:Addr}{cs:List (Str×Bool)}(G:Ans1 X.K (.ref D) cs)(ha:JE X e wa) (hg:Gl X "isinstance") (hm:X.mg "isinstance" = none) (hgc:Gl X y) (hmc:X.mg y=some (.ref D))
  (hd:(y==("__debug__" : Str))=false:=by decide) (hs:starEach [e,.Name y pc] X.env=(false,eval e X.env)::starEach [.Name y pc] X.env:=by exact star1 rfl) (hs1:starEach [.Name y pc] X.env=(false,eval (.Name y pc) X.env)::starEach [] X.env:=by exact star1 rfl)
  (hpl:(backTo pos (starEach [.Name y pc] X.env)).any (·.1)=false:=by exact stars rfl):JE X (.Call (.Name "isinstance" p) [e,.Name y pc] [] pos) (wIsE cs wa):=by
 refine pe_of (pe_callB (call_isE1 (v':=.ref D) (fun u r=>r) G) hg hm boot_isinstance (pa_cons ha (pa_cons (pe_glob (v:=.ref D) hgc hmc rfl hd) pa_nil hs1) hs) (by decide) (by decide) hs hpl) fun σ H Q ⟨τ,Q0,R,hw,k⟩=>?_
 refine⟨τ,_,R,hw,fun t v H1 S1 r1 q1=>?_⟩
 obtain⟨p,c,b,rfl,hp,z,q⟩:=isE_at q1 r1
 exact⟨p,c,b,rfl,hp,z,k _ _ H1 S1 (rep_bl.mpr rfl) q⟩
theorem jisB{p pc:Pos}{y:Str}{T:String}{cs:List (Str×Bool)}(G:Ans1 X.K (.type T) cs)(ha:JE X e wa) (hg:Gl X "isinstance") (hm:X.mg "isinstance" = none) (hgc:Gl X y) (hmc:X.mg y=none) (hvc:bootBuiltins y=some (.type T))
  (hn:y ≠ "__name__" := by decide) (hd:(y==("__debug__" : Str))=false:=by decide) (hs:starEach [e,.Name y pc] X.env=(false,eval e X.env)::starEach [.Name y pc] X.env:=by exact star1 rfl) (hs1:starEach [.Name y pc] X.env=(false,eval (.Name y pc) X.env)::starEach [] X.env:=by exact star1 rfl)
  (hpl:(backTo pos (starEach [.Name y pc] X.env)).any (·.1)=false:=by exact stars rfl):JE X (.Call (.Name "isinstance" p) [e,.Name y pc] [] pos) (wIsE cs wa):=by
 refine pe_of (pe_callB (call_isE1 (v':=.ty T) (fun u r=>r) G) hg hm boot_isinstance (pa_cons ha (pa_cons (pe_bltn (v:=.ty T) hgc hmc hvc rfl hn hd) pa_nil hs1) hs) (by decide) (by decide) hs hpl) fun σ H Q ⟨τ,Q0,R,hw,k⟩=>?_
 refine⟨τ,_,R,hw,fun t v H1 S1 r1 q1=>?_⟩
 obtain⟨p,c,b,rfl,hp,z,q⟩:=isE_at q1 r1
 exact⟨p,c,b,rfl,hp,z,k _ _ H1 S1 (rep_bl.mpr rfl) q⟩
def ClsRow(X:Cx)(es:List Expr)(Ds:List Addr):Prop:=PA X es (fun σ H Q=>Q (Ds.map V.ref) H)
theorem crow0:ClsRow X [] []:=pa_nil
theorem crow{y:Str}{D:Addr}{pc:Pos}{Ds:List Addr}(hg:Gl X y)(hm:X.mg y=some (.ref D))(h:ClsRow X es Ds) (hd:(y==("__debug__" : Str))=false:=by decide):ClsRow X (.Name y pc::es) (D::Ds) :=
 pa_of (pa_cons (pe_glob (v:=.ref D) hg hm rfl hd) h (star1 rfl)) fun σ H Q q=>q
theorem vals_refs:∀{Ds:List Addr}{us:List Value},Vals (Ds.map V.ref) us->us=Ds.map Value.ref
 | [],_,.nil=>rfl
 | d::Ds,_,.cons r rr=>by rw[vals_refs rr];cases r;rfl
theorem call_isEN{Ds:List Addr}{cs:List (Str×Bool)}(G:AnsN X.K (Ds.map Value.ref) cs):CallR X (.builtin "isinstance") (fun xs H Q=>∃p c b tp,xs=[.ref p,.ref tp]/\ExcAt X.K H c p/\H tp=some (.tup (Ds.map V.ref))/\cs.lookup c=some b/\Q (.bl b) H):=by
 intro pins s σ H xs us Q I r h
 obtain⟨p,c,b,tp,rfl,hp,htp,hl,q⟩:=h
 obtain⟨u,u',rfl,rx,r2⟩:=vals2 r
 cases rx
 cases r2
 obtain⟨C,hC,ho⟩:=exc_now I hp
 obtain⟨g1,g2,g3⟩:=G c b hl C hC
 obtain⟨_,its,rv,ob,e1,e2,n,e3⟩:=I.hok tp _ htp
 have:=vals_refs rv
 subst this
 obtain⟨c0,d0,dt,sl⟩:=ob
 dsimp only at e2 e3
 subst e2 e3
 exact PySem.W.kia_tup (kitx_exc g1 g2) I.kIn ho e1 g3 (fun z=>nomatch z) fun tk=>⟨.bl b,H,I.tok tk,rfl,q⟩
theorem jisN{p pc:Pos}{k1:Nat}{ys:List Expr}{Ds:List Addr}{cs:List (Str×Bool)}(G:AnsN X.K (Ds.map Value.ref) cs)(hl:Ds.length<=1000)(ha:JE X e wa) (hg:Gl X "isinstance") (hm:X.mg "isinstance" = none) (hy:ClsRow X ys Ds)
  (hs:starEach [e,.Tuple ys k1 pc] X.env=(false,eval e X.env)::starEach [.Tuple ys k1 pc] X.env:=by exact star1 rfl) (hs1:starEach [.Tuple ys k1 pc] X.env=(false,eval (.Tuple ys k1 pc) X.env)::starEach [] X.env:=by exact star1 rfl)
  (hpl:(backTo pos (starEach [.Tuple ys k1 pc] X.env)).any (·.1)=false:=by exact stars rfl):JE X (.Call (.Name "isinstance" p) [e,.Tuple ys k1 pc] [] pos) (wIsE cs wa):=by
 refine pe_of (pe_callB (call_isEN G) hg hm boot_isinstance (pa_cons ha (pa_cons (pe_tup hy) pa_nil hs1) hs) (by decide) (by decide) hs hpl) fun σ H Q ⟨τ,Q0,R,hw,k⟩=>?_
 refine⟨τ,_,R,hw,fun t v H1 S1 r1 q1=>⟨by rw[List.length_map];exact few hl,fun tp htp=>?_⟩⟩
 obtain⟨p,c,b,rfl,hp,z,q⟩:=isE_at q1 r1
 exact⟨p,c,b,tp,rfl,hp.kp (.of (same_new htp _)),upd_same,z,k _ _ _ (S1.trans (same_new htp _)) (rep_bl.mpr rfl) q⟩
end
end TL
namespace TL
open PySem PySem.Spec PyProof.Rows L2
section
variable {K:PySem.W.Frag} {mg:Str->Option Value} {c0 y:Str} {D DY:Addr} {b0:Bool} {v:Value} {vs:List Value}
theorem cls_same{C:Addr}(h:clsAt K c0 C)(d:clsAt K c0 D):C=D:=Value.ref.inj (Option.some.inj (Option.some.inj (h.symm.trans d)))
theorem ans1_nil:Ans1 K v []:=fun c b h=>by cases h
theorem ansN_nil:AnsN K vs []:=fun c b h=>by cases h
theorem look_cons{c:Str}{b:Bool}{cs:List (Str×Bool)}(h:List.lookup c ((c0,b0)::cs)=some b):(c=c0/\b=b0)∨cs.lookup c=some b:=by
 rw[List.lookup]at h
 split at h
 ·rename_i q
  exact .inl ⟨beq_iff_eq.mp q,(Option.some.inj h).symm⟩
 ·exact .inr h
theorem ans1_cons{cs:List (Str×Bool)}(d:clsAt K c0 D)(T:ClsTold K D)(I:IsCls K D)(k:PySem.W.kitOne K (.ref D) v=some b0)(r:Ans1 K v cs):Ans1 K v ((c0,b0)::cs):=fun c b h C hC=>by
 rcases look_cons h with ⟨rfl,rfl⟩|h
 ·obtain rfl:=cls_same hC d
  exact⟨T,I,k⟩
 ·exact r c b h C hC
theorem ansN_cons{cs:List (Str×Bool)}(d:clsAt K c0 D)(T:ClsTold K D)(I:IsCls K D)(k:PySem.W.kitAny K (.ref D) vs=some b0)(r:AnsN K vs cs):AnsN K vs ((c0,b0)::cs):=fun c b h C hC=>by
 rcases look_cons h with ⟨rfl,rfl⟩|h
 ·obtain rfl:=cls_same hC d
  exact⟨T,I,k⟩
 ·exact r c b h C hC
theorem catches_nil(m:mg y=some (.ref DY)):Catches K mg y []:=⟨DY,m,fun c h=>by cases h⟩
theorem catches_cons{cs:List Str}(d:clsAt K c0 D)(m:mg y=some (.ref DY))(k:PySem.W.exmOne K (.ref D) (.ref DY)=some true)(r:Catches K mg y cs):Catches K mg y (c0::cs):=by
 obtain⟨E,hE,r⟩:=r
 obtain rfl:DY=E:=Value.ref.inj (Option.some.inj (m.symm.trans hE))
 refine⟨DY,m,fun c h C hC=>?_⟩
 rcases List.mem_cons.mp h with rfl|h
 ·obtain rfl:=cls_same hC d
  exact k
 ·exact r c h C hC
end
structure GetC(K:PySem.W.Frag)(f:Str)(C:Addr)(cd:ClassData)(rs:List Addr):Prop where
 ga:PySem.W.findIn K (.ref C) "__getattribute__" = some (some (.builtin "BaseException.__getattribute__"))
 no:PySem.W.findIn K (.ref C) "__getattr__" = some none
 ci:PySem.W.clsIn K C=some cd
 mro:cd.mro=rs.map Value.ref++mroVE
 hd:cd.hasDict=true
 na:PySem.W.findIn K (.ref C) f=some none
def GetF(K:PySem.W.Frag)(f:Str)(cs:List Str):Prop:=∀c∈cs,∀C,clsAt K c C->∃cd rs,GetC K f C cd rs
theorem getF_nil{K:PySem.W.Frag}{f:Str}:GetF K f []:=fun c h=>by cases h
theorem getF_cons{K:PySem.W.Frag}{f c0:Str}{D:Addr}{cs:List Str}{cd:ClassData}{rs:List Addr}(d:clsAt K c0 D)(g:GetC K f D cd rs)(r:GetF K f cs):GetF K f (c0::cs):=fun c h C hC=>by
 rcases List.mem_cons.mp h with rfl|h
 ·obtain rfl:=cls_same hC d
  exact⟨cd,rs,g⟩
 ·exact r c h C hC
theorem handed_rep{K:PySem.W.Frag}{H:Hp}{t:T}{v:V}{u:Value}(r:Rep K H t v)(h:RelV v u):PySem.W.handedIn u=true:=by
 cases t with
 | non=>obtain rfl:=rep_non.mp r;obtain rfl:u=.none:=h;rfl
 | bl b=>obtain rfl:=rep_bl.mp r;obtain rfl:u=.bool b:=h;rfl
 | int i=>obtain rfl:=rep_int.mp r;obtain⟨t,rfl⟩:=h;rfl
 | str x=>obtain rfl:=rep_str.mp r;obtain⟨t,rfl⟩:=h;rfl
 | tup ts=>obtain⟨p,_,rfl,_⟩:=rep_tup.mp r;obtain rfl:u=.ref p:=h;rfl
 | lst ts=>obtain⟨p,_,rfl,_⟩:=rep_lst.mp r;obtain rfl:u=.ref p:=h;rfl
 | dct=>obtain⟨p,rfl,_⟩:=rep_dct.mp r;obtain rfl:u=.ref p:=h;rfl
 | exc c=>obtain⟨p,rfl,_⟩:=rep_exc.mp r;obtain rfl:u=.ref p:=h;rfl
 | exf c f t=>obtain⟨p,rfl,_⟩:=rep_exf.mp r;obtain rfl:u=.ref p:=h;rfl
 | dic ks ts=>obtain⟨p,o,kvs,rfl,_⟩:=rep_dic.mp r;obtain rfl:u=.ref p:=h;rfl
def wFld(f:Str)(cs:List Str)(wa:WE):WE:=fun τ Q=>wa τ fun t=>match t with | .exf c g u=>g=f/\c∈cs/\Q u|_=>False
section
variable {X:Cx} {e:Expr} {wa:WE} {pos:Pos}
theorem jfld{f:Str}{cs:List Str}(G:GetF X.K f cs)(ha:JE X e wa)(hb:attributeBase e f X.env (eval e X.env)=eval e X.env:=by rfl):JE X (.Attribute e f pos) (wFld f cs wa):=by
 intro pins s σ H Q I ⟨τ,Q0,R,hw,k⟩
 refine attr_of hb (thn (ha pins s σ H (fun v H1=>∃t,Same H H1/\Rep X.K H1 t v/\(match t with | .exf c g u=>g=f/\c∈cs/\Q0 u|_=>False)) I ⟨τ,_,R,hw,fun t v H1 S1 r q=>⟨t,S1,r,q⟩⟩) fun u s1 ⟨x,H1,I1,rx,t,S1,rt,q⟩=>?_)
 cases t with
 | exf c g t =>
  obtain⟨rfl,hc,q⟩:=q
  obtain⟨p,rfl,d,od,u',y,E,ry,rt'⟩:=rep_exf.mp rt
  obtain⟨o,C,ws,h1,h2,h3,h4,h5⟩:=E.ex
  obtain⟨cd,rs,g⟩:=G _ hc C h5
  have ox:=(I1.hok p _ h1).1
  have odx:=(I1.hok d _ E.dict).1
  have IA:PySem.W.InstAt s1.heap p o C (some od):=⟨ox,h2,by unfold PySem.W.notCls;rw[h3],by rw[h4];exact odx⟩
  obtain rfl:u=.ref p:=rx
  have hh:PySem.W.hasDictIn X.K C=true:=by unfold PySem.W.hasDictIn;rw[g.ci];exact g.hd
  exact get_exc I1.kIn IA g.ga g.no g.ci g.mro (PySem.W.findObj_own hh g.na rfl E.look) (handed_rep rt' ry) ⟨y,H1,I1.tok _,ry,k t y H1 S1 rt' q⟩
 | _=>exact q.elim
end
end TL
end
section
namespace TL
open PySem PySem.Spec PyProof.Rows L2
section
variable {X:Cx} {a b c e:Expr} {es:List Expr} {wa wb wc w:WE} {pos:Pos}
def wOIx(i:Nat)(wb:WE):WE:=fun τ Q=>match sget τ i with
 | .own ts=>wb τ fun y=>(match y with | .int k=>(match atI ts k with|some t=>Q t|none=>False)|_=>False)
 | _=>False
def wOLen(i:Nat):WE:=fun τ Q=>match sget τ i with | .own ts=>Q (.int ts.length)|_=>False
def tONe(i:Nat):WT:=fun τ Q=>match sget τ i with | .own ts=>Q (!ts.isEmpty)|_=>False
end
end TL
end
section
namespace TL
open PySem PySem.Spec PyProof.Rows L2
section
variable {X:Cx} {a b c e:Expr} {es:List Expr} {wa wb wc w:WE} {pos:Pos}
def rIxST(x y:T)(Q:T->Prop):Prop:=match x,y with
 | .str z,.int i=>z.length<=1000/\(match atI z.cps.toList i with|some c=>Q (.str ⟨#[c]⟩)|none=>False)
 | _,_=>False
theorem jixS(ha:JE X a wa)(hb:JE X b wb)(hs:PlainIx b:=by intro _ _;rfl):JE X (.Subscript a b pos) (w2 rIxST wa wb):=pe_of (pe_ix ix_seq ha hb hs) (up2 fun t1 t2 v1 v2 H Q0 Q r1 r2 q k=>by
 cases t1<;>cases t2<;>first|exact q.elim|skip
 rename_i z i
 obtain⟨hz,q⟩:z.length<=1000/\(match atI z.cps.toList i with|some c=>Q0 (.str ⟨#[c]⟩)|none=>False):=q
 cases e:atI z.cps.toList i with
 | none=>rw[e]at q;exact q.elim
 | some c =>
  rw[e]at q
  exact .inr (.inr ⟨z,i,c,rep_str.mp r1,rep_int.mp r2,few hz,e,k _ _ H (.refl H) (rep_str.mpr rfl) q⟩))
def rAddST(x y:T)(Q:T->Prop):Prop:=match x,y with
 | .str i,.str j=>i.length + j.length<=1000/\Q (.str (i++j))
 | _,_=>False
theorem b_addS:BR X .Add rAddST:=⟨_,op_add_str,fun t1 t2 v1 v2 H Q0 Q r1 r2 q k=>by
 cases t1<;>cases t2<;>first|exact q.elim|skip
 rename_i i j
 obtain⟨hz,q⟩:i.length + j.length<=1000/\Q0 (.str (i++j)):=q
 exact⟨i,j,rep_str.mp r1,rep_str.mp r2,few hz,k _ _ H (.refl H) (rep_str.mpr rfl) q⟩⟩
def repS(z:Str)(n:Int):Str:=if n < 1 then Str.empty else if (n==1||z.length==0)=true then z else ⟨(List.replicate n.toNat z.cps).foldl (· ++ ·) #[]⟩
def rMulST(x y:T)(Q:T->Prop):Prop:=match x,y with
 | .str z,.int n=>z.length<=1/\0<=n/\n<=1000/\Q (.str (repS z n))
 | _,_=>False
theorem op_mulS:OpR X (binaryOp .Mult) (fun x y H Q=>∃z n,x=.str z/\y=.int n/\z.length<=1/\0<=n/\n<=1000/\Q (.str (repS z n)) H):=by
 intro pins s σ H x y v u Q I rx ry h
 obtain⟨z,n,rfl,rfl,hz,h0,h1,q⟩:=h
 obtain⟨t,rfl⟩:=rx
 obtain⟨t',rfl⟩:=ry
 have e1:decide (n < -(2 ^ 63:Int))=false:=decide_eq_false (by omega)
 have e2:decide (n ≥ 2 ^ 63)=false:=decide_eq_false (by omega)
 have line:1000<=sizeLine:=few (Nat.le_refl _)
 refine PySem.P.mul_str (by rw[e1,e2];rfl) (fun _ _=>?_) (fun _ _=>?_) ?_
 ·have:(1000:Int)<=(2 ^ 63 - 1) / n:=by
   have hn:0 < n:=by omega
   have:=Int.le_ediv_of_mul_le hn (show (1000:Int) * n<=2 ^ 63 - 1 by omega)
   exact this
  omega
 ·have:z.length * n.toNat<=1000:=by
   have:z.length * n.toNat<=1 * n.toNat:=Nat.mul_le_mul_right _ hz
   omega
  unfold Builtin.Str.tooLong
  simp only[decide_eq_false_iff_not]
  omega
 ·unfold repS at q
  split
  ·rename_i hn
   rw[if_pos hn]at q
   exact⟨by decide,.str _,H,I.tok _,⟨_,rfl⟩,q⟩
  ·rename_i hn
   rw[if_neg hn]at q
   split
   ·rename_i hc
    rw[if_pos hc]at q
    exact⟨.str z,H,I,⟨_,rfl⟩,q⟩
   ·rename_i hc
    rw[if_neg hc]at q
    refine⟨?_,.str _,H,I.tok _,⟨_,rfl⟩,q⟩
    have e:=len_reps z.cps n.toNat #[]
    show (List.foldl (fun x1 x2=>x1++x2) #[] (List.replicate n.toNat z.cps)).size<=sizeLine
    have hz':z.cps.size<=1:=hz
    have:n.toNat * z.cps.size<=n.toNat * 1:=Nat.mul_le_mul_left _ hz'
    simp only[Array.size_empty,Nat.zero_add]at e
    rw[e]
    omega
theorem b_mulS:BR X .Mult rMulST:=⟨_,op_mulS,fun t1 t2 v1 v2 H Q0 Q r1 r2 q k=>by
 cases t1<;>cases t2<;>first|exact q.elim|skip
 rename_i z n
 obtain⟨hz,h0,h1,q⟩:z.length<=1/\0<=n/\n<=1000/\Q0 (.str (repS z n)):=q
 exact⟨z,n,rep_str.mp r1,rep_int.mp r2,hz,h0,h1,k _ _ H (.refl H) (rep_str.mpr rfl) q⟩⟩
def tTruT(wa:WE):WT:=fun τ Q=>wa τ fun x=>match x with | .bl k=>Q k | .lst ts=>Q (!ts.isEmpty)|_=>False
theorem ttru(ha:JE X a wa)(he:∀whole,isTrue a X.env whole=(do let v ← whole;standAt a.pos;holding [v] (truthy v)):=by intro _;rfl):JT X a (tTruT wa) :=
 pt_of (pt_truth ha he) fun σ H Q ⟨τ,Q0,R,hw,k⟩=>⟨τ,_,R,hw,fun t v H1 S1 r q=>by
  cases t<;>first|exact q.elim|skip
  ·rename_i b
   rw[rep_bl]at r
   subst r
   exact⟨b,rfl,k _ H1 S1 q⟩
  ·rename_i ts
   rw[rep_lst]at r
   obtain⟨p,vs,rfl,sq,rr⟩:=r
   refine⟨!vs.isEmpty,.inl ⟨vs,sq.sq,rfl⟩,?_⟩
   have e:(!vs.isEmpty)=!ts.isEmpty:=by
    have:=rr.length
    cases vs<;>cases ts<;>simp_all
   rw[e]
   exact k _ H1 S1 q⟩
def strsOf:List T->Option (List Str)
 | []=>some []
 | .str z::r=>(strsOf r).map (z :: ·)
 | _=>none
theorem strsOf_eq:∀{ts:List T}{zs:List Str},strsOf ts=some zs->ts=zs.map T.str
 | [],zs,h=>by simp only[strsOf,Option.some.injEq]at h;subst h;rfl
 | t::r,zs,h=>by
  cases t<;>simp only[strsOf,reduceCtorEq]at h
  rename_i z
  cases e:strsOf r with
  | none=>rw[e]at h;cases h
  | some us =>
   rw[e]at h
   simp only[Option.map_some,Option.some.injEq]at h
   subst h
   rw[strsOf_eq e]
   rfl
theorem strsOf_map(zs:List Str):strsOf (zs.map T.str)=some zs:=by
 induction zs with
 | nil=>rfl
 | cons z r ih=>simp only[List.map_cons,strsOf,ih,Option.map_some]
theorem reps_strs_inv{K:PySem.W.Frag}{H:Hp}:∀{zs:List Str}{vs:List V},Reps K H (zs.map T.str) vs->vs=zs.map V.str
 | [],vs,r=>by rw[List.map_nil,reps_nil]at r;exact r
 | z::zs,vs,r=>by
  rw[List.map_cons,reps_cons]at r
  obtain⟨v,vr,rfl,r1,r2⟩:=r
  rw[rep_str.mp r1,reps_strs_inv r2]
  rfl
def cInT(x y:T)(Q:Bool->Prop):Prop:=match x,y with
 | .str z,.lst ts=>(match strsOf ts with|some zs=>Q (zs.contains z)|none=>False)
 | .int z,.lst ts=>(match intsOf ts with|some zs=>Q (zs.contains z)|none=>False)
 | _,_=>False
def cNotInT(x y:T)(Q:Bool->Prop):Prop:=match x,y with
 | .str z,.lst ts=>(match strsOf ts with|some zs=>Q (!zs.contains z)|none=>False)
 | .int z,.lst ts=>(match intsOf ts with|some zs=>Q (!zs.contains z)|none=>False)
 | _,_=>False
theorem strsAre_of:∀{zs:List Str}{us:List Value},Vals (zs.map V.str) us->StrsAre us zs
 | [],us,h=>by cases h;exact .nil
 | z::zs,us,h=>by
  simp only[List.map_cons]at h
  cases h with
  | cons r1 r2=>obtain⟨t,rfl⟩:=r1;exact .cons z t (strsAre_of r2)
def rSortT(ts:List T)(Q:T->Prop):Prop:=match ts with
 | [.lst xs]=>(match strsOf xs with|some zs=>zs.length < 64/\∀us:List Str,us.Perm zs->sortedS us=true->Q (.lst (us.map T.str))|none=>False)
 | _=>False
end
end TL
end
section
namespace TL
open PySem PySem.Spec PyProof.Rows L2
section
variable {X:Cx}
def rIntT(ts:List T)(Q:T->Prop):Prop:=match ts with
 | [.int i]=>Q (.int i)
 | [.bl k]=>Q (.int (if k then 1 else 0))
 | _=>False
theorem ty_int:BlR X (.type "int") rIntT:=by
 refine⟨_,call_int1,fun ts vs H Q0 Q r q k=>?_⟩
 unfold rIntT at q
 split at q
 ·obtain⟨v,rfl,r1⟩:=reps1 r
  exact .inl ⟨_,by rw[rep_int.mp r1],k _ _ H (.refl H) (rep_int.mpr rfl) q⟩
 ·obtain⟨v,rfl,r1⟩:=reps1 r
  exact .inr ⟨_,by rw[rep_bl.mp r1],k _ _ H (.refl H) (rep_int.mpr rfl) q⟩
 ·exact q.elim
end
end TL
namespace TL
open PySem PySem.Spec PyProof.Rows L2
section
end
end TL
namespace TL
open PySem PySem.Spec PyProof.Rows L2
section
variable {X:Cx}
end
end TL
namespace TL
open PySem PySem.Spec PyProof.Rows L2
section
variable {X:Cx}
end
end TL
end
section
namespace TL
open PySem PySem.Spec PyProof.Rows L2
section
variable {X:Cx} {a b c e:Expr} {es:List Expr} {wa wb wc w:WE} {pos:Pos}
end
end TL
end
section
namespace TL
open PySem PySem.Spec PyProof.Rows L2
section
variable {prog:Program} {w:World} {A:Around} {E:Value->Shared->Prop} {s:Shared}
end
section
variable {X:Cx} {a b e:Expr} {wa wb:WE} {pos:Pos}
def prT(p:Int×T):T:=.tup [.int p.1,p.2]
def wDIx(wa wb:WE):WE:=fun τ Q=>wa τ fun x=>∃ps:List (Int×T),x=.lst (ps.map prT)/\(ps.map (·.1)).Nodup/\wb τ fun y=>∃i t,y=.int i/\(i,t)∈ps/\Q t
def sDic(i:Nat)(wa:WE):WS:=fun D τ=>wa τ fun x=>∃ps:List (Int×T),x=.lst (ps.map prT)/\(ps.map (·.1)).Nodup/\D.nx (sput τ i (.dic ps))
def wDis(i:Nat)(wb:WE):WE:=fun τ Q=>match sget τ i with
 | .dic ps=>(ps.map (·.1)).Nodup/\wb τ fun y=>∃j t,y=.int j/\(j,t)∈ps/\Q t
 | _=>False
def tNinD(i:Nat)(wa:WE):WT:=fun τ Q=>wa τ fun y=>match y,sget τ i with | .int j,.dic ps=>Q (!decide (j∈ps.map (·.1)))|_,_=>False
def wRepL(ws:WA)(wb:WE):WE:=fun τ Q=>ws τ fun ts=>ts.length<=1000/\wb τ fun y=>∃k:Nat,y=.int k/\k<=1000/\ts.length * k<=1000/\Q (.lst (List.replicate k ts).flatten)
end
end TL
end
section
namespace TL
open PySem PySem.Spec PyProof.Rows L2
section
variable {X:Cx} {a b e:Expr} {wa wb:WE} {pos:Pos}
def rJoinV(K:PySem.W.Frag):V->List V->Hp->VK->Prop:=fun x vs H Q=>∃(sep:Str) (p:Addr) (zs:List Str),x=.str sep/\vs=[.ref p]/\SqL K H p (zs.map V.str)/\(zs.map (·.length)).sum + zs.length * sep.length<=16777216/\Q (.str (Txt.join sep zs)) H
theorem mt_join:MtR X "str.join" (rJoinV X.K):=by
 intro pins s σ H x vs v us Q I rx rv h
 obtain⟨sep,p,zs,rfl,rfl,hq,hl,q⟩:=h
 obtain⟨t,rfl⟩:=rx
 obtain⟨u,rfl,ru⟩:=vals1 rv
 cases ru
 obtain⟨its,r,pl,hz⟩:=I.list hq
 exact join_list pl.isList (by simpa using strsAre_of r) hl fun t' k=>⟨.str _,H,I.tok _,⟨_,rfl⟩,q⟩
def rJoinT(sep:Str)(y:T)(Q:T->Prop):Prop:=match y with
 | .lst ts=>(match strsOf ts with|some zs=>(zs.map (·.length)).sum + zs.length * sep.length<=16777216/\Q (.str (Txt.join sep zs))|none=>False)
 | _=>False
def rJoinTs(sep:Str)(ts:List T)(Q:T->Prop):Prop:=match ts with|[y]=>rJoinT sep y Q|_=>False
def wJoin(wa wb:WE):WE:=fun τ Q=>wa τ fun x=>match x with
 | .str sep=>wb τ fun y=>rJoinT sep y Q
 | _=>False
theorem jjoin{apos:Pos}(ha:JE X a wa)(hb:JE X b wb)(hst:starEach [b] X.env=[(false,eval b X.env)]:=by exact star1 rfl) (hbase:attributeBase a "join" X.env (eval a X.env)=eval a X.env:=by rfl)
  (hfew:((backTo pos (starEach [b] X.env)).all (fun x=>!x.1)&&(backToKw pos (keywordEach [] X.env)).all (fun x=>x.1.isSome)
   && decide ([b].length + ([]:List Keyword).length + (if ([]:List Keyword).isEmpty then 0 else 1) < 30))=true:=by rfl)
  (hline:(apos.endLine==pos.line)=true:=by rfl):JE X (.Call (.Attribute a "join" apos) [b] [] pos) (wJoin wa wb):=by
 refine pe_of (pe_bm F.plainAttrs_str F.slot_str_join F.type_str_join mt_join ha (ja hb ja0 hst) hbase hfew hline hst (stars rfl)) fun σ H Q ⟨τ,Q0,R,hw,k⟩=>?_
 refine⟨τ,_,R,hw,fun t v H1 S1 r1 q1=>?_⟩
 cases t<;>first|exact q1.elim|skip
 rename_i sep
 have e1:=rep_str.mp r1
 subst e1
 refine⟨rfl,τ,fun ts=>rJoinTs sep ts Q0,R.mono S1,q1,fun ts vs H2 S2 rr q2=>?_⟩
 obtain⟨y,rfl,q3⟩:∃y,ts=[y]/\rJoinT sep y Q0:=by
  cases ts with
  | nil=>exact q2.elim
  | cons y r =>
   cases r with
   | nil=>exact⟨y,rfl,q2⟩
   | cons _ _=>exact q2.elim
 obtain⟨v,rfl,r2⟩:=reps1 rr
 clear rr q2
 cases y<;>first|exact q3.elim|skip
 rename_i ys
 have q4:(match strsOf ys with|some zs=>(zs.map (·.length)).sum + zs.length * sep.length<=16777216/\Q0 (.str (Txt.join sep zs))|none=>False):=q3
 clear q3
 cases ez:strsOf ys with
 | none=>rw[ez]at q4;exact q4.elim
 | some zs =>
  rw[ez]at q4
  rw[strsOf_eq ez,rep_lst]at r2
  obtain⟨p,ws,rfl,sq,r3⟩:=r2
  have ew:=reps_strs_inv r3
  subst ew
  exact⟨sep,p,zs,rfl,rfl,sq.sq,q4.1,k _ _ H2 (S1.trans S2) (rep_str.mpr rfl) q4.2⟩
def rStrT(ts:List T)(Q:T->Prop):Prop:=match ts with
 | [.str z]=>Q (.str z)
 | [.int i]=>i.natAbs < 2 ^ 64/\Q (.str (Str.ofString (toString i)))
 | _=>False
def rLenST(ts:List T)(Q:T->Prop):Prop:=match ts with
 | [.str z]=>z.length<=1000/\Q (.int z.length)
 | _=>False
theorem bl_lenS:BlR X (.builtin "len") rLenST:=by
 refine⟨_,call_len_str,fun ts vs H Q0 Q r q k=>?_⟩
 unfold rLenST at q
 split at q
 ·obtain⟨v,rfl,r1⟩:=reps1 r
  have:=rep_str.mp r1
  subst this
  exact⟨_,rfl,few q.1,k _ _ H (.refl H) (rep_int.mpr rfl) q.2⟩
 ·exact q.elim
def rSlSV:V->Option Int->Option Int->Hp->VK->Prop:=fun x lo hi H Q=>∃z:Str,x=.str z/\z.length<=1000/\Q (.str (Txt.slice z lo hi)) H
theorem sl_str:SlR X rSlSV:=by
 intro pins s σ H x v vl vu lo hi sl Q I rx hs pl pu h
 obtain⟨z,rfl,hz,q⟩:=h
 obtain⟨t,rfl⟩:=rx
 refine⟨"str", _,F.slot_str_getitem.lookup,typeIs_str _ _ _,?_⟩
 obtain⟨l,el,el'⟩:∃l:Option (Int×Tok),vl=partValue l/\l.map (·.1)=lo:=by
  cases pl with
  | none=>exact⟨none,rfl,rfl⟩
  | int i t=>exact⟨some (i,t),rfl,rfl⟩
 obtain⟨u,eu,eu'⟩:∃u:Option (Int×Tok),vu=partValue u/\u.map (·.1)=hi:=by
  cases pu with
  | none=>exact⟨none,rfl,rfl⟩
  | int i t=>exact⟨some (i,t),rfl,rfl⟩
 subst el eu el' eu'
 obtain⟨o,h1,h2,h3⟩:=hs
 refine wpAny_getItem_str_slice (l:=l) (u:=u) (st:=none) ⟨o,h1,h2,h3⟩ rfl (post_val_or_str ⟨Nat.le_trans (Txt.slice_le z _ _) (few hz),fun t' k=>⟨.str _,H,I.tok _,⟨_,rfl⟩,q⟩⟩)
def wSlS(wa:WE)(wl wh:WO):WE:=fun τ Q=>wa τ fun x=>wl τ fun lo=>wh τ fun hi=>match x with | .str z=>z.length<=1000/\Q (.str (Txt.slice z lo hi))|_=>False
theorem jslS{lo hi:Option Expr}{wl wh:WO}{p2:Pos}(ha:JE X e wa)(hl:JO X lo wl)(hh:JO X hi wh):JE X (.Subscript e (.Slice lo hi none p2) pos) (wSlS wa wl wh):=pe_of (pe_slice sl_str ha hl hh) fun σ H Q ⟨τ,Q0,R,hw,k⟩ =>
 ⟨τ,_,R,hw,fun t v H1 S1 r1 q1=>⟨τ,_,R.mono S1,q1,fun l H2 S2 q2=>⟨τ,_,R.mono (S1.trans S2),q2,fun h H3 S3 q3=>by
  cases t<;>first|exact q3.elim|skip
  rename_i z
  exact⟨z,rep_str.mp r1,q3.1,k _ _ _ (S1.trans (S2.trans S3)) (rep_str.mpr rfl) q3.2⟩⟩⟩⟩
def rAddAT(x y:T)(Q:T->Prop):Prop:=match x,y with
 | .int i,.int j=>Q (.int (i + j))
 | .tup xs,.tup ys=>xs.length + ys.length<=1000/\Q (.tup (xs++ys))
 | .lst xs,.lst ys=>xs.length + ys.length<=1000/\Q (.lst (xs++ys))
 | .str i,.str j=>i.length + j.length<=1000/\Q (.str (i++j))
 | _,_=>False
def sOwnC(i:Nat)(w:WE):WS:=fun D τ=>w τ fun t=>match t with | .lst ts=>D.nx (sput τ i (.own ts))|_=>False
end
end TL
end
section
namespace TL
open PySem PySem.Spec PyProof.Rows L2
section
variable {X:Cx} {a b:List Stmt} {t u:TS}
end
abbrev SpO:=List T->(List T->Prop)->Prop
def spO(K:PySem.W.Frag)(n:Nat)(S:SpO):Sp:=fun vs H Q _=>∃(ts:List T) (Q0:List T->Prop),vs.length=n/\Reps K H ts vs/\S ts Q0/\∀us p ws H',Same H H'->H p=none->H' p=some (.lst ws)->Reps K H' us ws->Q0 us->Q (.ref p) H'
structure FnO(P:Program)(w:World)(K:PySem.W.Frag)(mg:Str->Option Value)(base:Heap)(k:Nat)(f:Addr)(fd:FuncData)(ps:List Str)(S:SpO):Prop where
 ok:FnOk P w K mg base CX0 k f fd ps (spO K ps.length S)
 len:∀ts Q,S ts Q->ts.length=ps.length
def endO(i:Nat)(Q:List T->Prop):DT:={nx:=fun τ=>match sget τ i with | .own us=>Q us|_=>False,rt:=fun _=>False}
def CalO(P:Program)(w:World)(K:PySem.W.Frag)(mg:Str->Option Value)(base:Heap)(k:Nat)(x:Str)(ps:List Str)(S:SpO):Prop :=
 ∃f fd,FnO P w K mg base k f fd ps S/\Binds K fd ps []/\PySem.W.keepIn K (.ref f)=true/\mg x=some (.ref f)
theorem CalO.mk{P:Program}{w:World}{K:PySem.W.Frag}{mg:Str->Option Value}{base:Heap}{k:Nat}{x qual:Str}{ps:List Str}{S:SpO}{st:Stmt}{f:Addr}{fd:FuncData}(F:Fun K x qual st f fd)(m:mg x=some (.ref f))
  (b:Binds K fd ps []) (h:FnO P w K mg base k f fd ps S):CalO P w K mg base k x ps S:=⟨f,fd,h,b,F.kp,m⟩
abbrev frO(S:SpO):SpT:=fun ts Q=>S ts fun us=>Q (.lst us)
theorem FnO.frz{P:Program}{w:World}{K:PySem.W.Frag}{mg:Str->Option Value}{base:Heap}{k:Nat}{f:Addr}{fd:FuncData}{ps:List Str}{S:SpO}(F:FnO P w K mg base k f fd ps S):FnT P w K mg base k f fd ps (frO S):=by
 refine⟨⟨fun vs H Q E ⟨ts,Q0,e,_⟩=>e,fun A outer s H args us vs Q E hr e0 hb hv ⟨ts,Q0,e,r,hS,q⟩=>?_⟩,fun ts Q h=>F.len _ _ h⟩
 refine codeAny_mono (F.ok.run A outer s H args us vs (fun v H'=>∃zs p ws,v=.ref p/\Same H H'/\H p=none/\H' p=some (.lst ws)/\Reps K H' zs ws/\Q0 (.lst zs)) E hr e0 hb hv ⟨ts,_,e,r,hS,fun zs p ws H' S1 h0 hp rr n=>⟨zs,p,ws,rfl,S1,h0,hp,rr,n⟩⟩) fun res s' h=>?_
 cases res with
 | error e=>exact h
 | ok fl =>
  cases fl with
  | ret u =>
   obtain⟨v,H',os,bare,un,hok,rv,zs,p,ws,rfl,S1,h0,hp,rr,n⟩:=h
   obtain⟨z,its,m,rl,eh⟩:=hok p _ hp
   have K1:=Kp.write hp (.frz {cls:=.type "list", data:=.seq its.toArray m} (.lst ws))
   have ne:∀{b:Addr}{o:HO},H b=some o->b≠p:=fun q z=>by subst z;rw[h0]at q;cases q
   have S2:Same H (upd H' p (.frz {cls:=.type "list", data:=.seq its.toArray m} (.lst ws))):=fun b o q'=>by rw[upd_ne (ne q')];exact S1 b o q'
   refine⟨.ref p,_,os,bare,⟨un.keep,un.slot,fun b o q' n' hx=>?_,un.there,fun b ys q'=>?_,fun b o u' q'=>?_,fun b ps' q'=>?_⟩,fun b ob q'=>?_,rv,q (.lst zs) (.ref p) _ S2 (rep_lst.mpr ⟨p,ws,rfl,.inl ⟨_,upd_same⟩,rr.kp K1⟩) n⟩
   ·have e1:=un.free b o q' n' hx
    rw[upd_ne (by rintro rfl;rw[hp]at e1;cases e1)]
    exact e1
   ·rw[upd_ne (ne q')];exact un.tups b ys q'
   ·rw[upd_ne (ne q')];exact un.frzs b o u' q'
   ·obtain⟨more,e1⟩:=un.tbls b ps' q'
    exact⟨more,by rw[upd_ne (ne q')];exact e1⟩
   ·by_cases hb:b=p
    ·subst hb
     rw[upd_same]at q'
     cases q'
     exact⟨eh,z,its,m,rl,eh⟩
    ·rw[upd_ne hb]at q'
     refine(hok b ob q').stay (fun c v hc q=>q) (fun c q=>?_) fun c ys q=>?_
     ·rw[upd_ne (by rintro rfl;rw[hp]at q;cases q)];exact q
     ·rw[upd_ne (by rintro rfl;rw[hp]at q;cases q)];exact q
  | next=>exact False.elim h
  | brk=>exact False.elim h
  | cont=>exact False.elim h
theorem CalO.frz{P:Program}{w:World}{K:PySem.W.Frag}{mg:Str->Option Value}{base:Heap}{k:Nat}{x:Str}{ps:List Str}{S:SpO}(C:CalO P w K mg base k x ps S):Cal P w K mg base k x ps (frO S) :=
 let ⟨f,fd,F,b,kp,m⟩:=C;⟨f,fd,F.frz,b,kp,m⟩
section
variable {X:Cx} {e:Expr} {b:Expr} {es:List Expr} {wa wb w:WE} {ws:WA} {pos:Pos}
def sOwnF(i:Nat)(S:SpO)(ws:WA):WS:=fun D τ=>ws τ fun ts=>S ts fun us=>D.nx (sput τ i (.own us))
def sSetIx(i:Nat)(wb wa:WE):WS:=fun D τ=>match sget τ i with
 | .own ts=>wa τ fun t=>wb τ fun y=>(match y with | .int k=>(match ixN ts.length k with|some j=>D.nx (sput τ i (.own (ts.set j t)))|none=>False)|_=>False)
 | _=>False
theorem Reps.set{K:PySem.W.Frag}{H:Hp}{t:T}{v:V}(r:Rep K H t v):∀{ts:List T}{vs:List V}{j:Nat},Reps K H ts vs->Reps K H (ts.set j t) (vs.set j v)
 | [],vs,j,h=>by
  rw[reps_nil]at h
  subst h
  exact reps_nil.mpr rfl
 | x::ts,vs,j,h=>by
  rw[reps_cons]at h
  obtain⟨u,us,rfl,h1,h2⟩:=h
  cases j with
  | zero=>exact reps_cons.mpr ⟨_,_,rfl,r,h2⟩
  | succ j=>exact reps_cons.mpr ⟨_,_,rfl,h1,Reps.set r h2⟩
def sCatO(i j:Nat)(ws:WA):WS:=fun D τ=>match sget τ j with
 | .own ts=>ws τ fun us=>us.length<=1000/\ts.length + us.length<=1000/\D.nx (sput τ i (.own (ts++us)))
 | _=>False
def iOwn(i:Nat):WI:=fun τ Q=>match sget τ i with | .own ts=>Q ts|_=>False
end
end TL
namespace TL
open PySem PySem.Spec PyProof.Rows L2
mutual
def noL:T->Bool
 | .non | .bl _ | .int _ | .str _=>true
 | .tup ts=>noLs ts
 | _=>false
def noLs:List T->Bool
 | []=>true
 | t::ts=>noL t&&noLs ts
end
mutual
theorem Rep.noL{K:PySem.W.Frag}{H H':Hp}(k:∀a xs,SqT K H a xs->SqT K H' a xs):∀{t:T}{v:V},TL.noL t=true->Rep K H t v->Rep K H' t v
 | .non,v,_,h=>by rw[rep_non]at h ⊢;exact h
 | .bl b,v,_,h=>by rw[rep_bl]at h ⊢;exact h
 | .int i,v,_,h=>by rw[rep_int]at h ⊢;exact h
 | .str x,v,_,h=>by rw[rep_str]at h ⊢;exact h
 | .tup ts,v,n,h=>by
  rw[rep_tup]at h ⊢
  obtain⟨p,vs,e,s,r⟩:=h
  exact⟨p,vs,e,k p vs s,Reps.noL k (by rw[TL.noL]at n;exact n) r⟩
 | .lst ts,v,n,h=>by simp[TL.noL]at n
 | .dct,v,n,h=>by simp[TL.noL]at n
 | .exc c,v,n,h=>by simp[TL.noL]at n
 | .exf c f t,v,n,h=>by simp[TL.noL]at n
 | .dic _ _,v,n,h=>by simp[TL.noL]at n
theorem Reps.noL{K:PySem.W.Frag}{H H':Hp}(k:∀a xs,SqT K H a xs->SqT K H' a xs):∀{ts:List T}{vs:List V},TL.noLs ts=true->Reps K H ts vs->Reps K H' ts vs
 | [],vs,_,h=>by rw[reps_nil]at h ⊢;exact h
 | t::ts,vs,n,h=>by
  rw[reps_cons]at h ⊢
  obtain⟨v,r,e,h1,h2⟩:=h
  rw[TL.noLs,Bool.and_eq_true]at n
  exact⟨v,r,e,Rep.noL k n.1 h1,Reps.noL k n.2 h2⟩
end
section
variable {X:Cx}
def wFz(i:Nat)(w:WE):WE:=fun τ Q=>match sget τ i with
 | .own ts=>w (sput τ i (.val (.lst ts))) fun t=>TL.noL t=true/\Q t
 | _=>False
def tFz(i:Nat)(w:WT):WT:=fun τ Q=>match sget τ i with
 | .own ts=>w (sput τ i (.val (.lst ts))) Q
 | _=>False
def vat1(v:V):Slot->Slot
 | .val t=>.vat t v
 | .vat t u=>.vat t u
 | _=>.no
def vatT(i:Nat)(ts:List T)(a:Nat->V):Nat->List Slot->List Slot
 | _,[]=>[]
 | n,s::r=>(if n=i then .vat (.lst ts) (a n) else vat1 (a n) s)::vatT i ts a (n + 1) r
def backT(Z:List Nat):Nat->List Slot->List Slot
 | _,[]=>[]
 | n,s::r=>(if n∈Z then .no else s)::backT Z (n + 1) r
def lone1:Slot->Bool
 | .no=>true
 | .val _=>true
 | .vat _ _=>true
 | _=>false
def lone(i:Nat):Nat->List Slot->Bool
 | _,[]=>true
 | n,s::r=>(decide (n=i)||lone1 s)&&lone i (n + 1) r
def sFzS(i:Nat)(Z:List Nat)(w:WS):WS:=fun D τ=>match sget τ i with
 | .own ts=>lone i 0 τ=true/\i∉Z/\∀a:Nat->V,w {nx:=fun τ'=>(τ'.length=τ.length/\∀j,j < τ.length->j∉Z->sget τ' j=sget (vatT i ts a 0 τ) j)/\D.nx (backT Z 0 τ),rt:=D.rt,bk:=fun _=>False,ct:=fun _=>False} (vatT i ts a 0 τ)
 | _=>False
end
section
variable {X:Cx} {a b c e:Expr} {es:List Expr} {wa wb wc w:WE} {ws:WA} {pos:Pos}
def rMulLT(x y:T)(Q:T->Prop):Prop:=match x,y with
 | .lst ts,.int n=>∃k:Nat,n=k/\k<=1000/\ts.length * k<=1000/\Q (.lst (List.replicate k ts).flatten)
 | _,_=>False
def lstQ(Q:List T->Prop):T->Prop:=fun t=>match t with | .lst us=>Q us|_=>False
end
abbrev soX(S:SpX):SpO:=fun ts Q=>S RF ts (lstQ Q)
section
variable {X:Cx} {a b c e:Expr} {es:List Expr} {wa wb wc w:WE} {ws:WA} {pos:Pos}
def rCountTs(ts us:List T)(Q:T->Prop):Prop:=match us with
 | [.int k]=>(match intsOf ts with|some ns=>Q (.int (ns.count k:Nat))|none=>False)
 | _=>False
def wCount(wa:WE)(ws:WA):WE:=fun τ Q=>wa τ fun x=>match x with
 | .lst ts=>ws τ fun us=>rCountTs ts us Q
 | _=>False
def cInTT(x y:T)(Q:Bool->Prop):Prop:=match x,y with
 | .str z,.tup ts=>(match strsOf ts with|some zs=>Q (zs.contains z)|none=>False)
 | _,_=>False
end
end TL
end
section
namespace TL
open PySem PySem.Spec PyProof.Rows L2
section
variable {X:Cx} {e b c a:Expr} {es:List Expr} {wa wb w:WE} {ws:WA} {pos:Pos}
theorem vals_get:∀{xs:List V}{its:List Value},xs.length=its.length->(∀(i:Nat)(x:V)(v:Value),xs[i]?=some x->its[i]?=some v->RelV x v)->Vals xs its
 | [],[],_,_=>.nil
 | x::xs,v::its,hl,h=>.cons (h 0 x v rfl rfl) (vals_get (by simpa using hl) fun i y u hy hu=>h (i + 1) y u (by simpa using hy) (by simpa using hu))
 | [],_::_,hl,_=>by simp at hl
 | _::_,[],hl,_=>by simp at hl
def wLRng(ws:WA):WE:=fun τ Q=>ws τ fun ts=>match ts with
 | [.int j]=>0<=j/\j<=1000/\Q (.lst (rangeT 0 j.toNat))
 | _=>False
theorem Kp.dict{H:Hp}{p:Addr}{kvs:List (Key×V)}(hp:H p=some (.dK kvs))(o:HO):Kp H (upd H p o) :=
 ⟨fun b xs h=>by rw[upd_ne (ne_of h hp (by intro z;cases z))];exact h,fun b o' u h=>by rw[upd_ne (ne_of h hp (by intro z;cases z))];exact h⟩
def noD:List Slot->Bool
 | []=>true
 | .owd _ _::_=>false
 | _::r=>noD r
theorem noD_cons{s:Slot}{r:List Slot}:noD (s::r)=true ↔ (∀p q,s ≠ .owd p q)/\noD r=true:=by
 cases s<;>simp[noD]
theorem noD_at:∀{τ:List Slot},noD τ=true->∀(j:Nat){p:Addr}{kvs:List (Key×T)},sget τ j ≠ .owd p kvs
 | [],_,_,_,_=>by simp[sget]
 | s::r,h,0,p,kvs=>(noD_cons.mp h).1 p kvs
 | s::r,h,j + 1,p,kvs=>noD_at (noD_cons.mp h).2 j
theorem RepSt.dict{K:PySem.W.Frag}{H0 H:Hp}{σ:St}{τ:List Slot}{p:Addr}{kvs kvs':List (Key×V)}(R:RepSt K H0 H σ τ)(nd:noD τ=true)(hp:H p=some (.dK kvs))(n0:H0 p=none):RepSt K H0 (upd H p (.dK kvs')) σ τ:=by
 have k:=Kp.dict hp (.dK kvs')
 refine⟨fun b o h=>?_,R.len,fun j=>?_,R.apart⟩
 ·rw[upd_ne (fun z=>by rw[z,n0]at h;cases h)]
  exact R.same b o h
 ·have s:=R.slot j
  cases e:sget τ j with
  | no=>trivial
  | val t=>rw[e]at s;obtain⟨v,e1,r⟩:=s;exact⟨v,e1,r.kp k⟩
  | own ts=>rw[e]at s;obtain⟨q,vs,e1,h1,r,n⟩:=s;exact⟨q,vs,e1,by rw[upd_ne (ne_of h1 hp (by intro z;cases z))];exact h1,r.kp k,n⟩
  | see ts=>rw[e]at s;obtain⟨q,vs,e1,h1,r,n⟩:=s;exact⟨q,vs,e1,by rw[upd_ne (ne_of h1 hp (by intro z;cases z))];exact h1,r.kp k,n⟩
  | dic ps=>rw[e]at s;obtain⟨q,o,kv,e1,h1,ek,r⟩:=s;exact⟨q,o,kv,e1,k.frz _ _ _ h1,ek,r.kp k⟩
  | vat t v=>rw[e]at s;exact⟨s.1,s.2.kp k⟩
  | owd q kv=>exact absurd e (noD_at nd j)
def putI(ks:List Int)(k:Int):List Int:=if ks.contains k then ks else ks++[k]
def onceT(j:Nat)(w:WE):List T->List Int->DT->List Slot->Prop
 | [],ks,D,_=>D.rt (.lst (ks.map T.int))
 | t::ts,ks,D,τ=>ks.length < 1000/\(match t with
  | .int k=>w (sput τ j (.val (.int k))) fun _=>onceT j w ts (putI ks k) D (sput τ j (.val (.int k)))
  | _=>False)
def sOnce(i j:Nat)(wi:WI)(w:WE):WS:=fun D τ=>(i < τ.length/\j < τ.length/\noD (sput τ i .no)=true)/\wi (sput τ i .no) fun ts=>onceT j w ts [] D (sput τ i .no)
theorem vals_at:∀{xs:List V}{us:List Value}{i:Nat}{u:Value},Vals xs us->us[i]?=some u->∃x,xs[i]?=some x/\RelV x u
 | _,_,i,u,.nil,h=>by simp at h
 | x::xs,v::us,0,u,.cons r t,h=>by simp at h;subst h;exact⟨x,by simp,r⟩
 | x::xs,v::us,i + 1,u,.cons r t,h=>by
  obtain⟨y,e,ry⟩:=vals_at t (by simpa using h)
  exact⟨y,by simpa using e,ry⟩
theorem mt_index:MtR X "list.index" (fun x vs H Q=>∃(p:Addr) (ys:List V) (y:V) (j:Nat),x=.ref p/\vs=[y]/\SqL X.K H p ys/\flatV y=true/\ys.all flatV=true/\j < ys.length/\j<=1000 ∧
  (∀z,ys[j]?=some z->eqV z y=true)/\(∀(m:Nat) z,m < j->ys[m]?=some z->eqV z y=false)/\Q (.int (j:Int)) H):=by
 intro pins s σ H x vs v us Q I rx rv h
 obtain⟨p,ys,y,j,rfl,rfl,hq,fy,fs,hj,hj2,hit,hno,q⟩:=h
 cases rx
 obtain⟨u,rfl,ru⟩:=vals1 rv
 obtain⟨its,r,pl,hz⟩:=I.list hq
 have hlen:=r.length
 obtain⟨⟨cls,dd,data,sl⟩,ho,hc,n,hd⟩:=id pl.isList
 simp only at hc hd
 subst hc hd
 have at':∀(m:Nat)(hm:m < its.toArray.size),∃z,ys[m]?=some z/\eqU y its.toArray[m]=eqV z y:=fun m hm=>by
  have hm':m < its.length:=by simpa using hm
  obtain⟨z,e1,rz⟩:=vals_at r (List.getElem?_eq_getElem hm')
  have fz:flatV z=true:=List.all_eq_true.mp fs z (List.mem_of_getElem? e1)
  exact⟨z,e1,by rw[List.getElem_toArray];exact eqU_of rz fz⟩
 have hj':j < its.toArray.size:=by simpa [← hlen] using hj
 refine call_meets PySem.F.slot_list_index ⟨_,ho,rfl⟩ PySem.F.entry_list_index (PySem.F.args_list_index_2 _ _)
  (SeqAt.list_indexAt p its.toArray n dd sl u (eqU y) j hj' (by omega) ?_ ?_) ⟨ho,fun w hw=>mem_eqAt ru fy r fs w (by simpa using hw),⟨.int j,H,I.tok _,⟨_,rfl⟩,q⟩⟩
 ·obtain⟨z,e1,e2⟩:=at' j hj'
  rw[e2]
  exact hit z e1
 ·intro m hm hlt
  obtain⟨z,e1,e2⟩:=at' m hm
  rw[e2]
  exact hno m z hlt e1
theorem idx_ne{α:Type} [DecidableEq α] {k:α}:∀{ns:List α}{m:Nat},m < ns.idxOf k->ns[m]?=some k->False
 | [],m,h,e=>by simp at e
 | x::r,m,h,e=>by
  rw[List.idxOf_cons]at h
  by_cases q:x=k
  ·subst q
   simp at h
  ·rw[beq_eq_false_iff_ne.mpr q]at h
   cases m with
   | zero=>simp at e;exact q e
   | succ m =>
    simp at h e
    exact idx_ne h e
theorem idx_props{α:Type} [DecidableEq α] {f:α->V} (hf:∀a b,eqV (f a) (f b)=decide (a=b)) {ns:List α} {k:α} (hk:k∈ns):ns.idxOf k < (ns.map f).length/\(∀z,(ns.map f)[ns.idxOf k]?=some z->eqV z (f k)=true)/\∀(m:Nat) z,m < ns.idxOf k->(ns.map f)[m]?=some z->eqV z (f k)=false:=by
 have hj:ns.idxOf k < ns.length:=List.idxOf_lt_length_iff.mpr hk
 refine⟨by rw[List.length_map];exact hj,fun z hz=>?_,fun m z hm hz=>?_⟩
 ·rw[List.getElem?_map,List.getElem?_eq_getElem hj]at hz
  cases hz
  rw[hf]
  simp
 ·have hm':m < ns.length:=by omega
  rw[List.getElem?_map,List.getElem?_eq_getElem hm']at hz
  cases hz
  rw[hf]
  refine decide_eq_false fun e=>?_
  exact idx_ne hm (by rw[List.getElem?_eq_getElem hm',e])
def rIdxT(ts us:List T)(Q:T->Prop):Prop:=match us with
 | [.int k]=>(match intsOf ts with|some ns=>k∈ns/\ns.length<=1000/\Q (.int (ns.idxOf k:Nat))|none=>False)
 | [.str k]=>(match strsOf ts with|some ns=>k∈ns/\ns.length<=1000/\Q (.int (ns.idxOf k:Nat))|none=>False)
 | _=>False
def wIdx(wa:WE)(ws:WA):WE:=fun τ Q=>wa τ fun x=>match x with
 | .lst ts=>ws τ fun us=>rIdxT ts us Q
 | _=>False
def rAnyT(ts:List T)(Q:T->Prop):Prop:=match ts with
 | [.lst xs]=>(match boolsOf xs with|some bs=>Q (.bl (bs.any id))|none=>False)
 | _=>False
end
end TL
end
section
namespace TL
open PySem PySem.Spec PyProof.Rows L2
theorem rev_get{α:Type}{xs:List α}{i:Nat}(h:i < xs.length):xs.reverse[i]?=xs[xs.length - 1 - i]?:=by
 rw[List.getElem?_reverse h]
theorem nolen_lri:typeLookup (.type "list_reverseiterator") "__len__" = pure none:=by rw[typeLookup_type,builtinLookup_eq_fast];kernel_rfl
theorem hint_lri:typeLookup (.type "list_reverseiterator") "__length_hint__" = pure (some (.builtin "list_reverseiterator.__length_hint__")):=by rw[typeLookup_type,builtinLookup_eq_fast];kernel_rfl
section
variable {prog:Program} {w:World} {A:Around} {E:Value->Shared->Prop} {s:Shared} {I:Addr} {fp wr:List Addr} {G:Array GenState->Array GenState->Prop} {n:Nat} {P:Nat->Value->Prop} {St:Nat->Shared->Prop}
theorem extend_lri{R:Result->Shared->Prop}(W:WalksS prog w A.in1 I fp wr G n P St) (hT:∀i s,St i s->s.TypeIs (.ref I) "list_reverseiterator") (S:Addr) (res:Value) (c₀:Nat) (hst:St 0 s) (hSf:S∉fp) (hI:I∈fp)
  (hS:s.heap.get? S=some {cls:=.type "list", data:=.seq #[] c₀})
  (hR:∀s' acc' c',Moved (S::wr) G s s'->s'.heap.get? S=some {cls:=.type "list", dict:=none,data:=.seq acc' c',slots:=#[]}->ItemsOf P acc' n->R (.ok (.ret res)) s') (hn:n<=sizeLine) :
  wpAny (model prog w) A.in1 (Builtin.List.listExtendWith (.ref S) (.ref I) res)
   (fun fin s'=>match fin with | .done f=>R (.ok f) s' | .again c'=>c'.quiet=true/\codeAny (model prog w) A c' R s') (fun e s'=>R (.error e) s') s:=by
 have hSI:S≠I:=fun e=>hSf (e ▸ hI)
 unfold Builtin.List.listExtendWith
 refine wpAny_bind (wpAny_typeOf (hT 0 _ hst) ?_)
 have h1:Builtin.List.listSameRef (.ref S) (.ref I)=false:=by simp[Builtin.List.listSameRef,hSI]
 have h2:(Value.type "list_reverseiterator" == Value.type "list")=false:=by decide
 have h3:(Value.type "list_reverseiterator" == Value.type "tuple")=false:=by decide
 simp only[h1,h2,h3,Bool.or_false,Bool.false_eq_true,if_false]
 refine wpAny_bind (W.self 0 _ _ _ hst ?_)
 refine wpAny_bind (wpAny_holding ?_)
 unfold Builtin.List.listLengthHint
 refine wpAny_bind (wpAny_specialOf (hT 0 _ hst) nolen_lri ?_)
 show wpAny _ A.in1 (specialOf (Value.ref I) (Str.ofString "__length_hint__") >>= _) _ _ _
 refine wpAny_bind (wpAny_specialOf (hT 0 _ hst) hint_lri ?_)
 generalize hid:("list_reverseiterator.__length_hint__" : String)=id0
 wp_delta
 rw[show splitId id0=some ("list_reverseiterator", "__length_hint__") from by subst hid;decide +kernel]
 subst hid
 refine wpAny_bind (wpAny_isInstance (b:=true) (hT 0 _ hst) (by rw[isSubtype_type];kernel_rfl) ?_)
 refine wpAny_pure ?_
 rw[if_neg (by decide)]
 exact wpAny_pure ⟨plainId_quiet F.plain_extend_loop _,codeAny_extend_loopS W hn _ hSf _ n 0 _ _ _ rfl (Nat.zero_le _) hst hS (ItemsOf.nil P) fun s' acc' c' hm hS' hacc=>hR s' acc' c' hm hS' hacc⟩
theorem init_lri{R:Result->Shared->Prop}(W:WalksS prog w A.in1 I fp wr G n P St) (hT:∀i s,St i s->s.TypeIs (.ref I) "list_reverseiterator") (S:Addr) (hst:St 0 s) (hSf:S∉fp) (hI:I∈fp)
  (hS:s.heap.get? S=some {cls:=.type "list", data:=.seq #[]})
  (hR:∀s' acc' c',Moved (S::wr) G s s'->s'.heap.get? S=some {cls:=.type "list", dict:=none,data:=.seq acc' c',slots:=#[]}->ItemsOf P acc' n->R (.ok (.ret .none)) s') (hn:n<=sizeLine) :
  wpAny (model prog w) A.in1 (Builtin.«list.__init__» ⟨[.ref S,.ref I],[]⟩)
   (fun fin s'=>match fin with | .done f=>R (.ok f) s' | .again c'=>c'.quiet=true/\codeAny (model prog w) A c' R s') (fun e s'=>R (.error e) s') s:=by
 show wpAny _ A.in1 (do let old ← Builtin.List.listItems (.ref S);Builtin.List.listUpdate (.ref S) (fun _=>#[]);letGo old.toList.reverse;Builtin.List.listExtendWith (.ref S) (.ref I) .none) _ _ s
 refine wpAny_bind ?_
 unfold Builtin.List.listItems
 refine wpAny_bind (wpAny_seqItems hS rfl (wpAny_pure ?_))
 show wpAny _ A.in1 (updateSeq S (fun _=>#[]) >>= fun _=>letGo (#[]:Array Value).toList.reverse >>= fun _=>Builtin.List.listExtendWith (.ref S) (.ref I) .none) _ _ s
 refine wpAny_bind (wpAny_updateSeq hS rfl ?_)
 have hS₂:=Heap.get?_update_self (Obj.mapSeq (fun _=>(#[]:Array Value))) hS rfl
 have oth:∀b o,b≠S->s.heap.get? b=some o->(s.heap.update S (Obj.mapSeq (fun _=>(#[]:Array Value)))).get? b=some o :=
  fun b o hb e=>(Heap.get?_update_other _ _ (Ne.symm hb)).trans e
 refine wpAny_bind (wpAny_letGo ?_)
 refine extend_lri (hn:=hn) W hT S .none _ (W.frame 0 s _ s.toks hst (Nat.le_refl _) fun b hb o e=>oth b o (fun h=>hSf (h ▸ hb)) e) hSf hI hS₂ fun s' acc' c' hm hS' hacc=>?_
 exact hR s' acc' c' (Moved.trans W.gtrans ((Moved.refl W.grefl).then_heap (Nat.le_refl _) fun b o hb e=>oth b o (fun h=>hb (h ▸ List.mem_cons_self)) e) hm) hS' hacc
theorem call_list_lri{Q:Value->Shared->Prop}{l:Addr}{items:Array Value}(hh:A.handled=none)(hl:l≠I)(hit:s.heap.IsRevIter I l ((items.size:Int) - 1))(hls:s.heap.IsList l items)(hn:items.size<=sizeLine)
  (hQ:∀h' tk acc' c',(∀b o,b≠I->s.heap.get? b=some o->h'.get? b=some o)->h'.get? s.heap.objs.size=some {cls:=.type "list", dict:=none,data:=.seq acc' c',slots:=#[]}->ItemsOf (fun i v=>items[items.size - 1 - i]?=some v) acc' items.size->Q (.ref s.heap.objs.size) {s with heap:=h',toks:=tk}) :
  wpAny (model prog w) A (call (.type "list") [.ref I]) Q E s:=by
 have lI:I < s.heap.objs.size:=let ⟨_,ho,_⟩:=hit;Heap.lt_size ho
 have ll:l < s.heap.objs.size:=let ⟨_,ho,_⟩:=hls;Heap.lt_size ho
 have W:=(Walks.listRev (prog:=prog) (w:=w) (A:=A.in1.in1) (show A.in1.in1.handled=none from hh) I l hl items).toS
 refine callType_codes (Q₁:=fun obj s₁=>obj=.ref s.heap.objs.size/\s₁={s with heap:=s.heap.push {cls:=.type "list", data:=.seq #[]} }) F.called_list (F.typeCall_list_1 _) F.entry_list_init
  (code_list_new _ ⟨rfl,rfl⟩) fun obj s₁ h₁=>?_
 obtain⟨rfl,rfl⟩:=h₁
 have hS:(s.heap.push {cls:=.type "list", data:=.seq #[]}).get? s.heap.objs.size=some {cls:=.type "list", data:=.seq #[]}:=Heap.get?_push_size _ rfl
 have hSf:s.heap.objs.size∉[I,l]:=fun z=>by
  rcases List.mem_cons.mp z with e|e
  ·exact absurd lI (by rw[← e];exact Nat.lt_irrefl _)
  ·exact absurd ll (by rw[← List.mem_singleton.mp e];exact Nat.lt_irrefl _)
 refine⟨⟨_,hS,rfl⟩,F.args_list_init_2 _ _,init_lri (hn:=hn) W (fun i s z=>z.2.1.typeIs) _ ⟨Nat.zero_le _,by simpa using hit.at fun o e=>Heap.get?_push_of_some _ e,hls.at fun o e=>Heap.get?_push_of_some _ e⟩ hSf (by simp) hS fun s' acc' c' hm hS' hacc=>?_⟩
 refine⟨rfl,?_⟩
 rw[Moved.eq_with hm]
 refine hQ s'.heap s'.toks acc' c' (fun b o hb e=>hm.heap b o (fun hmem=>?_) (Heap.get?_push_of_some _ e)) hS' hacc
 rcases List.mem_cons.mp hmem with e'|hmem
 ·exact absurd (Heap.lt_size e) (by rw[e'];exact Nat.lt_irrefl _)
 ·exact hb (List.mem_singleton.mp hmem)
end
section
variable {X:Cx} {e b c a:Expr} {es:List Expr} {wa wb w:WE} {ws:WA} {pos:Pos}
def tLRev(ta:TE):TE:=fun σ H Q=>ta σ H fun x H1=>∃p ys,x=.ref p/\SqL X.K H1 p ys/\∀l o,H1 l=none->Q (.ref l) (upd H1 l (.frz o (.lst ys.reverse)))
theorem pe_lrev{ta:TE}{p1 p2 pos2:Pos}(hc:X.calm=true) (hg:Gl X "reversed") (hm:X.mg "reversed" = none) (hg2:Gl X "list") (hm2:X.mg "list" = none) (ha:PE X a ta) (hs:starEach [a] X.env=(false,eval a X.env)::starEach [] X.env)
  (hpl2:(backTo pos2 (starEach [] X.env)).any (·.1)=false) (he:starEach [.Call (.Name "reversed" p2) [a] [] pos2] X.env=(false,eval (.Call (.Name "reversed" p2) [a] [] pos2) X.env)::starEach [] X.env) (hpl:(backTo pos (starEach [] X.env)).any (·.1)=false) :
  PE X (.Call (.Name "list" p1) [.Call (.Name "reversed" p2) [a] [] pos2] [] pos) (tLRev (X:=X) ta):=by
 intro pins s σ H Q I h
 refine wpAny_Call_Name_kw (ld_blt I hg2 hm2 boot_list ?_)
 refine PyProof.Rows.callWith_type1 ?_ he hpl
 rw[he]
 refine Calls.spliced_cons ?_
 refine wpAny_Call_Name_kw (ld_blt I hg hm (u:=.type "reversed") rfl ?_)
 refine PyProof.Rows.callWith_type1 ?_ hs hpl2
 rw[hs]
 refine Calls.spliced_cons (thn (ha pins s σ H _ I h) fun u s1 ⟨x,H1,I1,r1,q1⟩=>Calls.spliced_nil ?_)
 obtain⟨p,ys,rfl,sq,q⟩:=q1
 cases r1
 obtain⟨its,rv,pl,hz⟩:=I1.list sq
 have hlen:=rv.length
 have hp:p < s1.heap.objs.size:=let ⟨_,ho,_⟩:=pl.isList;Heap.lt_size ho
 refine call_reversed_list pl.isList (Calls.spliced_nil ?_)
 refine call_list_lri (I:=s1.heap.objs.size) (items:=its.toArray) (I1.ok.hd hc) (Nat.ne_of_lt hp) ⟨_,Heap.get?_push_size _ rfl,rfl,rfl⟩ (pl.isList.at fun o e=>Heap.get?_push_of_some _ e) (by simp only[List.size_toArray];omega) fun h' tk acc c' hk hD hacc=>?_
 have sz:(s1.heap.push (revObj p ((its.toArray.size:Int) - 1))).objs.size=s1.heap.objs.size + 1:=by simp[Heap.push]
 have I2:=I1.laid (t':=tk) (a:=(s1.heap.push (revObj p ((its.toArray.size:Int) - 1))).objs.size) (o:=.lst ys.reverse) (fun b u e=>hk b u (Nat.ne_of_lt (Heap.lt_size e)) (Heap.get?_push_of_some _ e)) (by rw[sz];exact Nat.le_succ _)
  (show ObjOk X.prog X.w _ h' _ (.lst ys.reverse) from ⟨by rw[List.length_reverse];exact hz,acc.toList,c',vals_get (by have:=hacc.1;simp only[List.length_reverse,Array.length_toList];simp only[List.size_toArray]at this;omega) fun i x v hx hv=>?_,by rw[Array.toArray_toList];exact hD⟩)
 ·obtain⟨o,I3⟩:=Inv.freeze I2 (upd_same (o:=.lst ys.reverse))
  rw[upd_upd]at I3
  exact⟨.ref (s1.heap.push (revObj p ((its.toArray.size:Int) - 1))).objs.size,_,I3,rfl,q _ o (I1.hok.fresh (by rw[sz];exact Nat.le_succ _))⟩
 ·have hi:i < ys.length:=by
   have:=(List.getElem?_eq_some_iff.mp hx).1
   simpa using this
  rw[rev_get hi]at hx
  have:=hacc.2 i v (by rw[← Array.getElem?_toList];exact hv)
  rw[List.size_toArray,← hlen,List.getElem?_toArray]at this
  obtain⟨x',e1,rx⟩:=vals_at rv this
  rw[hx]at e1
  cases e1
  exact rx
def wLRev(w:WE):WE:=fun τ Q=>w τ fun x=>match x with
 | .lst ts=>Q (.lst ts.reverse)
 | _=>False
theorem Reps.rev{K:PySem.W.Frag}{H:Hp}:∀{ts:List T}{vs:List V},Reps K H ts vs->Reps K H ts.reverse vs.reverse
 | [],vs,h=>by rw[reps_nil]at h;subst h;exact reps_nil.mpr rfl
 | t::ts,vs,h=>by
  rw[reps_cons]at h
  obtain⟨v,r,rfl,h1,h2⟩:=h
  rw[List.reverse_cons,List.reverse_cons]
  exact(Reps.rev h2).append (.one h1)
theorem jlrev{p1 p2 pos2:Pos}(hc:X.calm=true) (hg:Gl X "reversed") (hm:X.mg "reversed" = none) (hg2:Gl X "list") (hm2:X.mg "list" = none) (ha:JE X a w) (hs:starEach [a] X.env=(false,eval a X.env)::starEach [] X.env:=by exact star1 rfl)
  (hpl2:(backTo pos2 (starEach [] X.env)).any (·.1)=false:=by exact stars rfl) (he:starEach [.Call (.Name "reversed" p2) [a] [] pos2] X.env=(false,eval (.Call (.Name "reversed" p2) [a] [] pos2) X.env)::starEach [] X.env:=by exact star1 rfl) (hpl:(backTo pos (starEach [] X.env)).any (·.1)=false:=by exact stars rfl) :
  JE X (.Call (.Name "list" p1) [.Call (.Name "reversed" p2) [a] [] pos2] [] pos) (wLRev w):=by
 refine pe_of (pe_lrev hc hg hm hg2 hm2 ha hs hpl2 he hpl) fun σ H Q ⟨τ,Q0,R,hw,k⟩=>?_
 refine⟨τ,_,R,hw,fun t v H1 S1 r q=>?_⟩
 cases t<;>first|exact q.elim|skip
 rename_i ts
 rw[rep_lst]at r
 obtain⟨p,ys,rfl,sq,rr⟩:=r
 refine⟨p,ys,rfl,sq.sq,fun l o hl=>?_⟩
 have S2:=same_new hl (.frz o (.lst ys.reverse))
 exact k _ _ _ (S1.trans S2) (rep_lst.mpr ⟨l,_,rfl,.inl ⟨o,upd_same⟩,(Reps.rev rr).kp (.of S2)⟩) q
end
section
variable {X:Cx} {e b c a:Expr} {es:List Expr} {wa wb w:WE} {ws:WA} {pos:Pos}
def keyT:T->Option Key
 | .int i=>some (.inl i)
 | .str x=>some (.inr x)
 | _=>none
def putT(kvs:List (Key×T))(k:Key)(t:T):List (Key×T):=if kvs.any fun kv=>decide (kv.1=k) then kvs.map fun kv=>if kv.1=k then (kv.1,t) else kv else kvs++[(k,t)]
def valT(kvs:List (Key×T))(k:Key):Option T:=(kvs.find? fun kv=>decide (kv.1=k)).map (·.2)
def sDNew(i:Nat):WS:=fun D τ=>∀p,D.nx (sput τ i (.owd p []))
theorem RepSt.putD{K:PySem.W.Frag}{H0 H:Hp}{σ:St}{τ:List Slot}{i:Nat}{p:Addr}(R:RepSt K H0 H σ τ)(hp:H p=none):RepSt K H0 (upd H p (.dK [])) (σ.set i (some (.ref p))) (sput τ i (.owd p [])):=by
 have S:=same_new hp (.dK [])
 have nown:∀c ts,sget (sput τ i (.owd p [])) c=.own ts->i≠c/\sget τ c=.own ts:=fun c ts h=>by
  by_cases hc:i=c
  ·subst hc
   by_cases hi:i < τ.length
   ·rw[sget_same hi]at h;cases h
   ·rw[sget_big (by rw[length_sput];omega)]at h;cases h
  ·rw[sget_ne hc]at h
   exact⟨hc,h⟩
 refine⟨R.same.trans S,by rw[length_sput,List.length_set];exact R.len,fun j=>?_,fun a b ts us q hab ha hb ea eb=>?_⟩
 ·by_cases hij:i=j
  ·subst hij
   by_cases hi:i < τ.length
   ·rw[sget_same hi]
    exact⟨List.getElem?_set_self (by rw[← R.len];exact hi),⟨[],upd_same,rfl,reps_nil.mpr rfl⟩,R.same.free hp⟩
   ·rw[sget_big (by rw[length_sput];omega)];trivial
  ·rw[sget_ne hij,List.getElem?_set_ne hij]
   exact(R.slot j).mono S
 ·obtain⟨na,ha⟩:=nown a ts ha
  obtain⟨nb,hb⟩:=nown b us hb
  rw[List.getElem?_set_ne na]at ea
  rw[List.getElem?_set_ne nb]at eb
  exact R.apart a b ts us q hab ha hb ea eb
theorem jdnew{i:Nat}{x:Str}{p1 p2:Pos}(hN:X.N.Nodup)(hi:X.N[i]?=some x)(hx:Loc X.env.scope x)(hs:swapsWith (.Dict [] [] p2) (some (.Name x p1)) pos.line X.env=pure false:=by rfl)
  (hf:X.fn x=true∨X.env.scope.names.lookup x=some .local:=by first|exact .inl rfl|exact .inr rfl|assumption):JS X (.Assign [.Name x p1] (.Dict [] [] p2) pos) (sDNew i):=by
 refine ps_of (ps_set hN hi hx pe_dnewK hs hf) fun D σ H ⟨τ,D0,R,hw,k,_⟩=>?_
 intro p hp
 exact k _ _ _ (.of (same_new hp _)) (R.putD hp) (hw p)
def onlyD(i:Nat)(τ:List Slot):Bool:=noD (sput τ i .no)
theorem RepSt.wrD{K:PySem.W.Frag}{H0 H:Hp}{σ:St}{τ:List Slot}{i:Nat}{p:Addr}{kvs kvs2:List (Key×T)}{vs2:List (Key×V)}(R:RepSt K H0 H σ τ)(hs:sget τ i=.owd p kvs)(od:onlyD i τ=true)(ek:vs2.map (·.1)=kvs2.map (·.1))(r:Reps K H (kvs2.map (·.2)) (vs2.map (·.2))) :
  RepSt K H0 (upd H p (.dK vs2)) σ (sput τ i (.owd p kvs2)):=by
 have sl:=R.slot i
 rw[hs]at sl
 obtain⟨ev,⟨vs,hp,_,_⟩,n0⟩:=sl
 have k:=Kp.dict hp (.dK vs2)
 have hi:i < τ.length:=by
  by_cases hi:i < τ.length
  ·exact hi
  ·rw[sget_big (by omega)]at hs;cases hs
 have ow:∀c us,sget (sput τ i (.owd p kvs2)) c=.own us->sget τ c=.own us:=fun c us h=>by
  by_cases hc:i=c
  ·subst hc;rw[sget_same hi]at h;cases h
  ·rw[sget_ne hc]at h;exact h
 refine⟨fun b o h=>?_,by rw[length_sput];exact R.len,fun j=>?_,fun a b ts us q hab ha hb ea eb=>R.apart a b ts us q hab (ow a _ ha) (ow b _ hb) ea eb⟩
 ·rw[upd_ne (fun z=>by rw[z,n0]at h;cases h)]
  exact R.same b o h
 ·by_cases hij:i=j
  ·subst hij
   rw[sget_same hi]
   exact⟨ev,⟨vs2,upd_same,ek,r.kp k⟩,n0⟩
  ·rw[sget_ne hij]
   have s:=R.slot j
   cases e:sget τ j with
   | no=>trivial
   | val t=>rw[e]at s;obtain⟨v,e1,r⟩:=s;exact⟨v,e1,r.kp k⟩
   | own ts=>rw[e]at s;obtain⟨q,vs,e1,h1,r,n⟩:=s;exact⟨q,vs,e1,by rw[upd_ne (ne_of h1 hp (by intro z;cases z))];exact h1,r.kp k,n⟩
   | see ts=>rw[e]at s;obtain⟨q,vs,e1,h1,r,n⟩:=s;exact⟨q,vs,e1,by rw[upd_ne (ne_of h1 hp (by intro z;cases z))];exact h1,r.kp k,n⟩
   | dic ps=>rw[e]at s;obtain⟨q,o,kv,e1,h1,ek,r⟩:=s;exact⟨q,o,kv,e1,k.frz _ _ _ h1,ek,r.kp k⟩
   | vat t v=>rw[e]at s;exact⟨s.1,s.2.kp k⟩
   | owd q kv =>
    have:=noD_at od j (p:=q) (kvs:=kv)
    rw[sget_ne hij]at this
    exact absurd e this
theorem putT_keys:∀{kvs:List (Key×T)}{vs:List (Key×V)}{k:Key}{t:T}{v:V},vs.map (·.1)=kvs.map (·.1)->(putK vs k v).map (·.1)=(putT kvs k t).map (·.1):=fun {kvs vs k t v} e=>by
 have ea:(vs.any fun kv=>decide (kv.1=k))=kvs.any fun kv=>decide (kv.1=k):=by
  have h1:(vs.any fun kv=>decide (kv.1=k))=(vs.map (·.1)).any fun x=>decide (x=k):=by rw[List.any_map];rfl
  have h2:(kvs.any fun kv=>decide (kv.1=k))=(kvs.map (·.1)).any fun x=>decide (x=k):=by rw[List.any_map];rfl
  rw[h1,h2,e]
 unfold putK putT
 rw[ea]
 split
 ·rw[List.map_map,List.map_map]
  have f1:((fun x:Key×V=>x.1) ∘ fun kv:Key×V=>if kv.1=k then (kv.1,v) else kv)=fun kv:Key×V=>kv.1:=by funext kv;simp only[Function.comp];split<;>rfl
  have f2:((fun x:Key×T=>x.1) ∘ fun kv:Key×T=>if kv.1=k then (kv.1,t) else kv)=fun kv:Key×T=>kv.1:=by funext kv;simp only[Function.comp];split<;>rfl
  rw[f1,f2]
  exact e
 ·rw[List.map_append,List.map_append,e]
  rfl
theorem put_map{K:PySem.W.Frag}{H:Hp}{k:Key}{t:T}{v:V}(rt:Rep K H t v):∀{kvs:List (Key×T)}{vs:List (Key×V)},vs.map (·.1)=kvs.map (·.1)->Reps K H (kvs.map (·.2)) (vs.map (·.2))->Reps K H ((kvs.map fun kv=>if kv.1=k then (kv.1,t) else kv).map (·.2)) ((vs.map fun kv=>if kv.1=k then (kv.1,v) else kv).map (·.2))
 | [],[],_,_=>reps_nil.mpr rfl
 | [],_::_,e,_=>by simp at e
 | _::_,[],e,_=>by simp at e
 | (a,x)::kvs,(b,y)::vs,e,r=>by
  simp only[List.map_cons,List.cons.injEq]at e
  obtain⟨e1,e2⟩:=e
  subst e1
  simp only[List.map_cons]at r ⊢
  rw[reps_cons]at r
  obtain⟨u,us,eq,r1,r2⟩:=r
  cases eq
  refine Reps.cons ?_ (put_map rt e2 r2)
  split
  ·exact rt
  ·exact r1
theorem putT_reps{K:PySem.W.Frag}{H:Hp}{kvs:List (Key×T)}{vs:List (Key×V)}{k:Key}{t:T}{v:V}(e:vs.map (·.1)=kvs.map (·.1))(r:Reps K H (kvs.map (·.2)) (vs.map (·.2)))(rt:Rep K H t v):Reps K H ((putT kvs k t).map (·.2)) ((putK vs k v).map (·.2)):=by
 have ea:(vs.any fun kv=>decide (kv.1=k))=kvs.any fun kv=>decide (kv.1=k):=by
  have h1:(vs.any fun kv=>decide (kv.1=k))=(vs.map (·.1)).any fun x=>decide (x=k):=by rw[List.any_map];rfl
  have h2:(kvs.any fun kv=>decide (kv.1=k))=(kvs.map (·.1)).any fun x=>decide (x=k):=by rw[List.any_map];rfl
  rw[h1,h2,e]
 unfold putK putT
 rw[ea]
 split
 ·exact put_map rt e r
 ·rw[List.map_append,List.map_append]
  exact r.append (.one rt)
theorem rep_key{K:PySem.W.Frag}{H:Hp}{t:T}{v:V}{k:Key}(e:keyT t=some k)(r:Rep K H t v):v=kV k:=by
 cases t<;>simp only[keyT,Option.some.injEq,reduceCtorEq]at e
 ·subst e;exact rep_int.mp r
 ·subst e;exact rep_str.mp r
def sDSet(i:Nat)(wb wa:WE):WS:=fun D τ=>match sget τ i with
 | .owd p kvs=>onlyD i τ=true/\kvs.length < 1000/\wa τ fun t=>wb τ fun y=>match keyT y with
  | some k=>D.nx (sput τ i (.owd p (putT kvs k t)))
  | none=>False
 | _=>False
theorem jdset{i:Nat}{x:Str}{p5 p7:Pos}(hu:X.A.units + 1 < cLine)(hv:PE X (.Name x p5) (tVar i))(hb:JE X b wb)(ha:JE X a wa)(hs:swapsWith a (some (.Subscript (.Name x p5) b p7)) pos.line X.env=pure false:=by rfl) :
  JS X (.Assign [.Subscript (.Name x p5) b p7] a pos) (sDSet i wb wa):=by
 refine ps_of (ps_dput hu hv hb ha hs) fun D σ H ⟨τ,D0,R,hw,kk,_⟩=>?_
 unfold sDSet at hw
 cases own:sget τ i with
 | owd p kvs =>
  rw[own]at hw
  obtain⟨od,hl,hw⟩:=hw
  refine⟨τ,_,R,hw,fun t v H1 S1 r1 q1=>?_⟩
  have sl:=(R.mono S1).slot i
  rw[own]at sl
  obtain⟨ev,⟨vs,hp,ek,rr⟩,n0⟩:=sl
  refine⟨.ref p,ev,τ,_,R.mono S1,q1,fun y u H2 S2 r2 q2=>?_⟩
  cases ey:keyT y with
  | none=>rw[ey]at q2;exact q2.elim
  | some k =>
   rw[ey]at q2
   have eu:=rep_key ey r2
   subst eu
   have hp2:H2 p=some (.dK vs):=S2 _ _ hp
   have hl2:vs.length=kvs.length:=by have:=congrArg List.length ek;simpa using this
   refine⟨p,_,rfl,DPut.k hp2 (by rw[hl2];exact small1000 (Nat.le_of_lt hl)),?_⟩
   exact kk _ _ _ ((Kp.of (S1.trans S2)).trans (Kp.dict hp2 _)) (((R.mono S1).mono S2).wrD own od (putT_keys ek) (putT_reps ek (rr.kp (.of S2)) (r1.kp (.of S2)))) q2
 | _=>rw[own]at hw;exact hw.elim
def wDLen(i:Nat):WE:=fun τ Q=>match sget τ i with | .owd _ kvs=>Q (.int kvs.length)|_=>False
theorem call_len_dict:CallR X (.builtin "len") (fun xs H Q=>∃p kvs,xs=[.ref p]/\H p=some (.dK kvs)/\Q (.int kvs.length) H):=by
 intro pins s σ H xs us Q I r h
 obtain⟨p,kvs,rfl,hp,q⟩:=h
 obtain⟨u,rfl,rx⟩:=vals1 r
 cases rx
 exact d_len I (.inl hp) fun t s' I'=>⟨.int kvs.length,H,I',⟨_,rfl⟩,q⟩
theorem jdlen{i:Nat}{x:Str}{p pc:Pos}(hv:PE X (.Name x p) (tVar i)) (hg:Gl X "len") (hm:X.mg "len" = none) (hb:bootBuiltins "len" = some (.builtin "len"):=by rfl)
  (he:starEach [.Name x p] X.env=(false,eval (.Name x p) X.env)::starEach [] X.env:=by exact star1 rfl) (hpl:(backTo pos (starEach [] X.env)).any (·.1)=false:=by exact stars rfl) :
  JE X (.Call (.Name "len" pc) [.Name x p] [] pos) (wDLen i):=pe_of (pe_callB call_len_dict hg hm hb (pa_cons hv pa_nil he) (by decide) (by decide) he hpl) fun σ H Q ⟨τ,Q0,R,hw,k⟩=>by
 unfold wDLen at hw
 cases own:sget τ i with
 | owd p kvs =>
  rw[own]at hw
  have sl:=R.slot i
  rw[own]at sl
  obtain⟨ev,⟨vs,hp,ek,rr⟩,n0⟩:=sl
  have hl2:vs.length=kvs.length:=by have:=congrArg List.length ek;simpa using this
  refine⟨.ref p,ev,p,vs,rfl,hp,?_⟩
  rw[hl2]
  exact k _ _ H (.refl H) (rep_int.mpr rfl) hw
 | _=>rw[own]at hw;exact hw.elim
def wDGt(i:Nat)(wb:WE):WE:=fun τ Q=>match sget τ i with
 | .owd _ kvs=>wb τ fun y=>match keyT y with
  | some k=>(match valT kvs k with|some t=>Q t|none=>False)
  | none=>False
 | _=>False
end
section
variable {X:Cx} {e b c a:Expr} {es:List Expr} {wa wb w:WE} {ws:WA} {pos:Pos}
theorem flat_bools(zs:List Bool):(zs.map V.bl).all flatV=true:=by
 induction zs with
 | nil=>rfl
 | cons z r ih=>rw[List.map_cons,List.all_cons,ih];rfl
theorem count_bools{k:Bool}:∀{bs:List Bool}{its:List Value},Vals (bs.map V.bl) its->its.countP (eqU (.bl k))=bs.count k
 | [],[],_=>rfl
 | [],_::_,h=>by cases h
 | _::_,[],h=>by cases h
 | x::bs,v::its,h=>by
  cases h with
  | cons r t =>
   have ih:=count_bools (k:=k) t
   have e:eqU (.bl k) v=(x==k):=eqU_of r rfl
   rw[List.countP_cons,List.count_cons,ih,e]
theorem mt_countB:MtR X "list.count" (fun x vs H Q=>∃(p:Addr) (ns:List Bool) (k:Bool),x=.ref p/\vs=[.bl k]/\SqL X.K H p (ns.map V.bl)/\Q (.int (ns.count k:Nat)) H):=by
 intro pins s σ H x vs v us Q I rx rv h
 obtain⟨p,ns,k,rfl,rfl,hq,q⟩:=h
 cases rx
 obtain⟨u,rfl,ru⟩:=vals1 rv
 obtain⟨its,r,pl,hz⟩:=I.list hq
 obtain⟨⟨cls,dd,data,sl⟩,ho,hc,n,hd⟩:=id pl.isList
 simp only at hc hd
 subst hc hd
 refine call_meets PySem.F.slot_list_count ⟨_,ho,rfl⟩ PySem.F.entry_list_count (PySem.F.args_list_count_2 _ _) (SeqAt.list_countAt p its.toArray n dd sl u (eqU (.bl k))) ⟨ho,fun w hw=>mem_eqAt ru rfl r (flat_bools ns) w (by simpa using hw),?_⟩
 rw[show its.toArray.toList=its from rfl,count_bools r]
 exact⟨.int _,H,I.tok _,⟨_,rfl⟩,q⟩
def rCountB(ts us:List T)(Q:T->Prop):Prop:=match us with
 | [.bl k]=>(match boolsOf ts with|some ns=>Q (.int (ns.count k:Nat))|none=>False)
 | _=>False
def wCountB(wa:WE)(ws:WA):WE:=fun τ Q=>wa τ fun x=>match x with
 | .lst ts=>ws τ fun us=>rCountB ts us Q
 | _=>False
theorem one_bl{us:List T}{P:Bool->Prop}(h:match us with|[.bl k]=>P k|_=>False):∃k,us=[.bl k]/\P k:=by
 cases us with
 | nil=>exact h.elim
 | cons y r =>
  cases y<;>first|exact h.elim|skip
  cases r with
  | nil=>exact⟨_,rfl,h⟩
  | cons _ _=>exact h.elim
theorem jcountB{apos:Pos}(ha:JE X a wa)(hb:JA X [b] ws)(hst:starEach [b] X.env=[(false,eval b X.env)]:=by exact star1 rfl) (hbase:attributeBase a "count" X.env (eval a X.env)=eval a X.env:=by rfl)
  (hfew:((backTo pos (starEach [b] X.env)).all (fun x=>!x.1)&&(backToKw pos (keywordEach [] X.env)).all (fun x=>x.1.isSome)
   && decide ([b].length + ([]:List Keyword).length + (if ([]:List Keyword).isEmpty then 0 else 1) < 30))=true:=by rfl)
  (hline:(apos.endLine==pos.line)=true:=by rfl):JE X (.Call (.Attribute a "count" apos) [b] [] pos) (wCountB wa ws):=by
 refine pe_of (pe_bm PySem.F.plainAttrs_list PySem.F.slot_list_count PySem.F.type_list_count mt_countB ha hb hbase hfew hline hst (stars rfl)) fun σ H Q ⟨τ,Q0,R,hw,k⟩=>?_
 refine⟨τ,_,R,hw,fun t v H1 S1 r1 q1=>?_⟩
 cases t<;>first|exact q1.elim|skip
 rename_i ts
 obtain⟨p,vs,rfl,sq,rr⟩:=rep_lst.mp r1
 refine⟨.inl ⟨rfl,vs,sq.sq⟩,τ,fun us=>rCountB ts us Q0,R.mono S1,q1,fun us ws' H2 S2 rs q2=>?_⟩
 obtain⟨y,rfl,q2'⟩:=one_bl (P:=fun y=>match boolsOf ts with|some ns=>Q0 (.int (ns.count y:Nat))|none=>False) q2
 obtain⟨v,rfl,r2⟩:=reps1 rs
 cases ez:boolsOf ts with
 | none=>rw[ez]at q2';exact q2'.elim
 | some ns =>
  rw[ez]at q2'
  have r3:=rr.kp (.of S2)
  rw[boolsOf_eq ez]at r3
  have ew:=reps_bools_inv r3
  subst ew
  exact⟨p,ns,y,rfl,by rw[rep_bl.mp r2],(sqF_kp (.of S2) sq).sq,k _ _ H2 (S1.trans S2) (rep_int.mpr rfl) q2'⟩
def rIdxB(ts us:List T)(Q:T->Prop):Prop:=match us with
 | [.bl k]=>(match boolsOf ts with|some ns=>k∈ns/\ns.length<=1000/\Q (.int (ns.idxOf k:Nat))|none=>False)
 | _=>False
def wIdxB(wa:WE)(ws:WA):WE:=fun τ Q=>wa τ fun x=>match x with
 | .lst ts=>ws τ fun us=>rIdxB ts us Q
 | _=>False
theorem jindexB{apos:Pos}(ha:JE X a wa)(hb:JA X [b] ws)(hst:starEach [b] X.env=[(false,eval b X.env)]:=by exact star1 rfl) (hbase:attributeBase a "index" X.env (eval a X.env)=eval a X.env:=by rfl)
  (hfew:((backTo pos (starEach [b] X.env)).all (fun x=>!x.1)&&(backToKw pos (keywordEach [] X.env)).all (fun x=>x.1.isSome)
   && decide ([b].length + ([]:List Keyword).length + (if ([]:List Keyword).isEmpty then 0 else 1) < 30))=true:=by rfl)
  (hline:(apos.endLine==pos.line)=true:=by rfl):JE X (.Call (.Attribute a "index" apos) [b] [] pos) (wIdxB wa ws):=by
 refine pe_of (pe_bm PySem.F.plainAttrs_list PySem.F.slot_list_index PySem.F.type_list_index mt_index ha hb hbase hfew hline hst (stars rfl)) fun σ H Q ⟨τ,Q0,R,hw,k⟩=>?_
 refine⟨τ,_,R,hw,fun t v H1 S1 r1 q1=>?_⟩
 cases t<;>first|exact q1.elim|skip
 rename_i ts
 obtain⟨p,vs,rfl,sq,rr⟩:=rep_lst.mp r1
 refine⟨.inl ⟨rfl,vs,sq.sq⟩,τ,fun us=>rIdxB ts us Q0,R.mono S1,q1,fun us ws' H2 S2 rs q2=>?_⟩
 obtain⟨y,rfl,q2'⟩:=one_bl (P:=fun y=>match boolsOf ts with|some ns=>y∈ns/\ns.length<=1000/\Q0 (.int (ns.idxOf y:Nat))|none=>False) q2
 obtain⟨v,rfl,r2⟩:=reps1 rs
 cases ez:boolsOf ts with
 | none=>rw[ez]at q2';exact q2'.elim
 | some ns =>
  rw[ez]at q2'
  have r3:=rr.kp (.of S2)
  rw[boolsOf_eq ez]at r3
  have ew:=reps_bools_inv r3
  subst ew
  obtain⟨h1,h2,h3⟩:=idx_props (f:=V.bl) (fun a b=>by show (a==b)=_;cases a<;>cases b<;>rfl) q2'.1
  exact⟨p,ns.map V.bl,.bl y,ns.idxOf y,rfl,by rw[rep_bl.mp r2],(sqF_kp (.of S2) sq).sq,rfl,flat_bools ns,h1,by have:=List.length_map (f:=V.bl) (as:=ns);have:=q2'.2.1;omega,h2,h3,k _ _ H2 (S1.trans S2) (rep_int.mpr rfl) q2'.2.2⟩
end
end TL
end
namespace TL
open PySem PySem.Spec PyProof.Rows L2
theorem cpow10(n:Int)(h:0<=n/\n<=1000000):CPow 10 n:=⟨h.1,h.2,by decide⟩
theorem Lim.of{n:Nat}{i:Int}(h1:-(10 ^ n) < i)(h2:i < 10 ^ n):Lim n i:=by
 unfold Lim
 have:((10 ^ n:Nat):Int)=10 ^ n:=by simp
 omega
theorem Lim.bd{n:Nat}{i:Int}(h:Lim n i):-(10 ^ n) < i/\i < 10 ^ n:=by
 unfold Lim at h
 have:((10 ^ n:Nat):Int)=10 ^ n:=by simp
 omega
theorem Lim.mono{m n:Nat}{i:Int}(h:Lim m i)(hn:m<=n):Lim n i:=Nat.lt_of_lt_of_le h (Nat.pow_le_pow_right (by decide) hn)
theorem Lim.mul{m n:Nat}{i j:Int}(a:Lim m i)(b:Lim n j):Lim (m + n) (i * j):=by
 unfold Lim at *
 rw[Int.natAbs_mul,Nat.pow_add]
 exact Nat.mul_lt_mul'' a b
theorem Lim.add{m n:Nat}{i j:Int}(a:Lim m i)(b:Lim n j):Lim (max m n + 1) (i + j):=by
 have a':=a.mono (Nat.le_max_left m n)
 have b':=b.mono (Nat.le_max_right m n)
 unfold Lim at *
 rw[Nat.pow_succ]
 have:=Int.natAbs_add_le i j
 omega
theorem Lim.neg{m:Nat}{i:Int}(a:Lim m i):Lim m (-i):=by
 unfold Lim at *
 rw[Int.natAbs_neg]
 exact a
theorem Lim.sub{m n:Nat}{i j:Int}(a:Lim m i)(b:Lim n j):Lim (max m n + 1) (i - j):=by
 rw[Int.sub_eq_add_neg]
 exact a.add b.neg
theorem Lim.le{m:Nat}{i j:Int}(a:Lim m i)(h:j.natAbs<=i.natAbs):Lim m j:=Nat.lt_of_le_of_lt h a
theorem mulOk{m n:Nat}{i j:Int}(a:Lim m i)(b:Lim n j)(hm:m<=100000:=by decide)(hn:n<=100000:=by decide):MulOk i j:=.inl ⟨m,n,hm,hn,a,b⟩
theorem mulOkR{i j:Int}(b:Lim 19 j):MulOk i j:=.inr (.inr b)
theorem divOk{n:Nat}{j:Int}(h:j≠0)(b:Lim n j)(hn:n<=2200:=by decide):DivOk j:=⟨h,n,hn,b⟩
theorem fmod_pos{b:Int}(a:Int)(h:0 < b):0<=a.fmod b/\a.fmod b < b:=⟨Int.fmod_nonneg_of_pos a h,Int.fmod_lt_of_pos a h⟩
theorem plain_ints:∀ns:List Int,PyData.canLayAll0 (pds (ns.map T.int))=true
 | []=>by simp[pds,PyData.canLayAll0]
 | n::r=>by simp only[List.map,pds,pd,PyData.canLayAll0,PyData.canLay0,plain_ints r,Bool.and_self]
theorem dep_ints:∀ns:List Int,PyData.depthAll (pds (ns.map T.int))=0
 | []=>by simp[pds,PyData.depthAll]
 | n::r=>by simp only[List.map,pds,pd,PyData.depthAll,PyData.depth,dep_ints r,Nat.max_self]
theorem eqOk_tup(ns ms:List Int):EqOk (.tup (ns.map T.int)) (.tup (ms.map T.int)):=by
 refine⟨by simp only[plain,pd,PyData.canLay0,plain_ints],by simp only[plain,pd,PyData.canLay0,plain_ints],by simp only[dep,pd,PyData.depth,dep_ints];decide⟩
theorem atI_map{ns:List Int}{k:Int}(h0:0<=k)(h1:k < ns.length):∃v,v∈ns/\atI (ns.map T.int) k=some (.int v):=by
 have hk:k.toNat < ns.length:=by omega
 refine⟨ns[k.toNat],List.getElem_mem hk,?_⟩
 unfold atI ixN
 rw[List.length_map,if_pos h0,if_pos h1]
 simp only[Option.bind]
 rw[List.getElem?_map,List.getElem?_eq_getElem hk]
 rfl
theorem atI0{α:Type}(a:α)(r:List α):atI (a::r) 0=some a:=by
 unfold atI ixN
 rw[if_pos (by decide),if_pos (by simp)]
 rfl
theorem atI1{α:Type}(a b:α)(r:List α):atI (a::b::r) 1=some b:=by
 unfold atI ixN
 rw[if_pos (by decide),if_pos (by simp;omega)]
 rfl
theorem atI2{α:Type}(a b c:α)(r:List α):atI (a::b::c::r) 2=some c:=by
 unfold atI ixN
 rw[if_pos (by decide),if_pos (by simp;omega)]
 rfl
def Within:List Int->List Int->Prop
 | [],[]=>True
 | r::rs,b::bs=>(0<=r/\r < b)/\Within rs bs
 | _,_=>False
theorem Within.snoc:∀{rs bs:List Int}{r b:Int},Within rs bs->0<=r->r < b->Within (rs++[r]) (bs++[b])
 | [],[],r,b,_,h0,h1=>⟨⟨h0,h1⟩,trivial⟩
 | _::_,_::_,r,b,h,h0,h1=>⟨h.1,h.2.snoc h0 h1⟩
 | [],_::_,_,_,h,_,_=>h.elim
 | _::_,[],_,_,h,_,_=>h.elim
theorem Within.length:∀{rs bs:List Int},Within rs bs->rs.length=bs.length
 | [],[],_=>rfl
 | _::_,_::_,h=>by simp[h.2.length]
 | [],_::_,h=>h.elim
 | _::_,[],h=>h.elim
@[elab_as_elim] theorem args0{α:Type}{M:List α->Prop}{us:List α}(hl:us.length=0)(h:M []):M us:=by cases us;exact h;cases hl
@[elab_as_elim] theorem argsS{α:Type}{M:List α->Prop}{us:List α}{n:Nat}(hl:us.length=n + 1)(h:∀a r,r.length=n->M (a::r)):M us:=by cases us;cases hl;exact h _ _ (Nat.succ.inj hl)
@[elab_as_elim] theorem args1{α:Type}{M:List α->Prop}{us:List α}(hl:us.length=1)(h:∀a,M [a]):M us:=argsS (M:=M) hl fun a r hl=>args0 (M:=fun r=>M (a::r)) hl (h a)
@[elab_as_elim] theorem args2{α:Type}{M:List α->Prop}{us:List α}(hl:us.length=2)(h:∀a b,M [a,b]):M us:=argsS (M:=M) hl fun a r hl=>args1 (M:=fun r=>M (a::r)) hl (h a)
@[elab_as_elim] theorem args3{α:Type}{M:List α->Prop}{us:List α}(hl:us.length=3)(h:∀a b c,M [a,b,c]):M us:=argsS (M:=M) hl fun a r hl=>args2 (M:=fun r=>M (a::r)) hl (h a)
@[elab_as_elim] theorem args4{α:Type}{M:List α->Prop}{us:List α}(hl:us.length=4)(h:∀a b c d,M [a,b,c,d]):M us:=argsS (M:=M) hl fun a r hl=>args3 (M:=fun r=>M (a::r)) hl (h a)
@[elab_as_elim] theorem args5{α:Type}{M:List α->Prop}{us:List α}(hl:us.length=5)(h:∀a b c d e,M [a,b,c,d,e]):M us:=argsS (M:=M) hl fun a r hl=>args4 (M:=fun r=>M (a::r)) hl (h a)
local macro_rules|`(tactic| walk_at "tw")=>`(tactic| simp only[sSeq,sNext,sSet,sIf,sRet,sOwn,sApp,sFrz,sAsg,sPar,sFor,sNever,sExpr,sRetN,gT,gsC,gs0,gN,wVar,wC,w2,rAddT,rSubT,rMulT,rDivT,rModT,rPowT,wNeg,wCmp,tCmpT,cLtT,cLeT,cGtT,cGeT,cEqT,cNeT,cIsN,cNotN,wChain,tChainT,tAndT,tOrT,tNotT,tVal,wAndV,wOrV,wNotV,wIfE,aNil,aCons,wTup,wLst,rIxTT,wCB,rLenT,rAbsT,rMaxT,rMinT,rTupleT,isK,noExc,wIsi,wCall,sget,sput,iSeq,iRange1,iRange2,iEnum,iZip,seqOf,zipT,wComp,compT,hide,tTrue,rSumT,intsOf,rAllT,boolsOf,rListT,rCatLT,rMin3T,iRange3,wRev,wRevA,wSl,wo,wo0,rSlTT,sRaise,sRaiseF,sTry,wIsE,wFld,wOIx,wOLen,tONe,rIxST,rAddST,rMulST,tTruT,cInT,cNotInT,rSortT,strsOf,wDIx,wRepL,sDic,wDis,tNinD,sOwnF,sSetIx,sCatO,iOwn,endO,frO,wFz,tFz,sFzS,vatT,vat1,backT,lone,lone1,noL,noLs,rMulLT,lstQ,soX,wCount,rCountTs,cInTT,wLRng,wIdx,rIdxT,sOnce,rAnyT,wLRev,sDNew,sDSet,wDLen,wDGt,keyT,onlyD,noD,wCountB,rCountB,wIdxB,rIdxB,wJoin,rJoinT,rStrT,wSlS,rAddAT,rLenST,sOwnC,Option.map,List.sum_cons,List.sum_nil,rangeT,startT,atI0,atI1,atI2,List.map,List.length_cons,List.length_nil,List.append_nil,List.cons_append,List.nil_append,List.replicate,Nat.reduceAdd,Nat.reduceSub,Nat.reduceLeDiff,Nat.zero_le,Int.reduceToNat,Int.reducePow,Int.reduceMul,Int.reduceAdd,true_and,and_true])
local macro_rules|`(tactic| walk_at "go")=>`(tactic| ((conv=>whnf);repeat (first|(refine And.intro (by first|rfl|exact trivial|decide|exact Nat.le_of_ble_eq_true rfl|exact mulOk (by assumption) (by assumption)|assumption) ?_;conv=>whnf)|(refine And.intro (fun q=>Bool.noConfusion q) (fun _=>?_);conv=>whnf)|(refine And.intro (fun _=>?_) (fun q=>Bool.noConfusion q);conv=>whnf))))
local macro_rules|`(tactic| walk_at "nf1")=>`(tactic| conv=>arg 1;simp only[startT,sput,sget,hide,List.map,List.replicate,List.length_cons,List.length_nil,Nat.reduceAdd,Nat.reduceSub,List.cons_append,List.nil_append,List.append_nil])
local macro_rules|`(tactic| walk_at "nf2")=>`(tactic| conv=>arg 2;simp only[startT,sput,sget,hide,List.map,List.replicate,List.length_cons,List.length_nil,Nat.reduceAdd,Nat.reduceSub,List.cons_append,List.nil_append,List.append_nil])
theorem gcd_step(a b:Int):Int.gcd b (a.fmod b)=Int.gcd a b:=by
 rw[Int.fmod_def,Int.gcd_sub_mul_left_right,Int.gcd_comm]
theorem fmod_abs_lt(a:Int){b:Int}(h:b≠0):(a.fmod b).natAbs < b.natAbs:=by
 rw[Int.fmod_eq_emod]
 have h1:=Int.emod_nonneg a h
 have h2:=Int.emod_lt a h
 by_cases hb:0<=b
 ·rw[if_pos (Or.inl hb)]
  omega
 ·by_cases hd:b ∣ a
  ·rw[if_pos (Or.inr hd),Int.emod_eq_zero_of_dvd hd]
   omega
  ·have h3:a % b≠0:=fun e=>hd (Int.dvd_of_emod_eq_zero e)
   rw[if_neg (by omega)]
   omega
structure Frac(p q a b:Int):Prop where
 pos:0 < q
 cop:Int.gcd p q=1
 eq:p * b=a * q
 top:p.natAbs<=a.natAbs
 bot:q.natAbs<=b.natAbs
theorem frac_mk(a:Int){b f:Int}(hb:b≠0)(hf:(0 < b/\f=(Int.gcd a b:Int))∨(b < 0/\f=-(Int.gcd a b:Int))):Frac (a.fdiv f) (b.fdiv f) a b:=by
 have g0:0 < Int.gcd a b:=Int.gcd_pos_iff.mpr (Or.inr hb)
 have fa:f.natAbs=Int.gcd a b:=by rcases hf with ⟨_,e⟩|⟨_,e⟩<;>rw[e]<;>simp
 have fn:f≠0:=by omega
 have da:f ∣ a:=by
  have:=Int.gcd_dvd_left a b
  rcases hf with ⟨_,e⟩|⟨_,e⟩
  ·rw[e];exact this
  ·rw[e];exact Int.neg_dvd.mpr this
 have db:f ∣ b:=by
  have:=Int.gcd_dvd_right a b
  rcases hf with ⟨_,e⟩|⟨_,e⟩
  ·rw[e];exact this
  ·rw[e];exact Int.neg_dvd.mpr this
 obtain⟨a',ea⟩:=da
 obtain⟨b',eb⟩:=db
 have e1:a.fdiv f=a':=by rw[ea];exact Int.mul_fdiv_cancel_left a' fn
 have e2:b.fdiv f=b':=by rw[eb];exact Int.mul_fdiv_cancel_left b' fn
 rw[e1,e2]
 have bn:b'≠0:=by rintro rfl;rw[Int.mul_zero]at eb;exact hb eb
 have cop:Int.gcd a' b'=1:=by
  have q:Int.gcd a b=f.natAbs * Int.gcd a' b':=by rw[ea,eb,Int.gcd_mul_left]
  rw[fa]at q
  have q':Int.gcd a b * 1=Int.gcd a b * Int.gcd a' b':=by rw[Nat.mul_one];exact q
  exact(Nat.eq_of_mul_eq_mul_left g0 q').symm
 have na:a.natAbs=f.natAbs * a'.natAbs:=by rw[ea,Int.natAbs_mul]
 have nb:b.natAbs=f.natAbs * b'.natAbs:=by rw[eb,Int.natAbs_mul]
 have f1:1<=f.natAbs:=by omega
 refine⟨?_,cop,?_,?_,?_⟩
 ·rcases hf with ⟨hp,e⟩|⟨hn,e⟩
  ·have fp:0 < f:=by omega
   rw[eb]at hp
   rcases Int.lt_trichotomy b' 0 with z|z|z
   ·have:=Int.mul_neg_of_pos_of_neg fp z
    omega
   ·exact absurd z bn
   ·exact z
  ·have fp:f < 0:=by omega
   rw[eb]at hn
   rcases Int.lt_trichotomy b' 0 with z|z|z
   ·have:=Int.mul_pos_of_neg_of_neg fp z
    omega
   ·exact absurd z bn
   ·exact z
 ·rw[ea,eb]
  rw[← Int.mul_assoc,Int.mul_comm a' f]
 ·rw[na];exact Nat.le_mul_of_pos_left _ f1
 ·rw[nb];exact Nat.le_mul_of_pos_left _ f1
theorem low_uniq{p q p' q':Int}(hq:0 < q)(hq':0 < q')(c:Int.gcd p q=1)(c':Int.gcd p' q'=1)(e:p * q'=p' * q):p=p'/\q=q':=by
 have n:p.natAbs * q'.natAbs=p'.natAbs * q.natAbs:=by rw[← Int.natAbs_mul,← Int.natAbs_mul,e]
 have c1:Nat.Coprime q.natAbs p.natAbs:=by
  have:Nat.gcd p.natAbs q.natAbs=1:=c
  exact(Nat.gcd_comm _ _).trans this
 have c2:Nat.Coprime q'.natAbs p'.natAbs:=by
  have:Nat.gcd p'.natAbs q'.natAbs=1:=c'
  exact(Nat.gcd_comm _ _).trans this
 have d1:q.natAbs ∣ q'.natAbs:=c1.dvd_of_dvd_mul_left ⟨p'.natAbs,by rw[n,Nat.mul_comm]⟩
 have d2:q'.natAbs ∣ q.natAbs:=c2.dvd_of_dvd_mul_left ⟨p.natAbs,by rw[← n,Nat.mul_comm]⟩
 have qe:q.natAbs=q'.natAbs:=Nat.dvd_antisymm d1 d2
 have qq:q=q':=by omega
 subst qq
 exact⟨Int.eq_of_mul_eq_mul_right (by omega) e,rfl⟩
mutual
theorem eqT_self:∀t:T,plain t=true->eqT t t=true
 | .non,_=>rfl
 | .bl b,_=>by rw[eqTb];exact beq_self_eq_true b
 | .int i,_=>by rw[eqTe];exact decide_eq_true rfl
 | .str x,_=>by rw[eqTf];exact beq_self_eq_true x
 | .tup ts,h=>by
  simp only[plain,pd,PyData.canLay0]at h
  exact eqTs_self ts h
 | .lst ts,h=>by
  simp only[plain,pd,PyData.canLay0]at h
  exact eqTs_self ts h
 | .dct,h=>by simp[plain,pd,PyData.canLay0]at h
 | .exc _,h=>by simp[plain,pd,PyData.canLay0]at h
theorem eqTs_self:∀ts:List T,PyData.canLayAll0 (pds ts)=true->eqTs ts ts=true
 | [],_=>rfl
 | t::r,h=>by
  simp only[pds,PyData.canLayAll0,Bool.and_eq_true]at h
  rw[eqTj,Bool.and_eq_true]
  exact⟨eqT_self t h.1,eqTs_self r h.2⟩
end
def Pn(n:Nat)(t:T):Prop:=plain t=true/\dep t<=n
theorem Pn.all{n:Nat}:∀{ts:List T},(∀t∈ts,Pn n t)->PyData.canLayAll0 (pds ts)=true/\PyData.depthAll (pds ts)<=n
 | [],_=>by simp[pds,PyData.canLayAll0,PyData.depthAll]
 | t::r,h=>by
  have h1:(pd t).canLay0=true/\(pd t).depth<=n:=h t List.mem_cons_self
  have ih:=Pn.all fun x hx=>h x (List.mem_cons_of_mem _ hx)
  simp only[pds,PyData.canLayAll0,PyData.depthAll,Bool.and_eq_true]
  exact⟨⟨h1.1,ih.1⟩,by omega⟩
theorem Pn.lst{n:Nat}{ts:List T}(h:∀t∈ts,Pn n t):Pn (n + 1) (.lst ts):=by
 have:=Pn.all h
 refine⟨by simp only[plain,pd,PyData.canLay0];exact this.1,?_⟩
 simp only[dep,pd,PyData.depth]
 omega
theorem Pn.tup{n:Nat}{ts:List T}(h:∀t∈ts,Pn n t):Pn (n + 1) (.tup ts):=by
 have:=Pn.all h
 refine⟨by simp only[plain,pd,PyData.canLay0];exact this.1,?_⟩
 simp only[dep,pd,PyData.depth]
 omega
theorem Pn.int(i:Int):Pn 0 (.int i):=by
 refine⟨by simp[plain,pd,PyData.canLay0],by simp[dep,pd,PyData.depth]⟩
theorem Pn.non:Pn 0 .non:=by
 refine⟨by simp[plain,pd,PyData.canLay0],by simp[dep,pd,PyData.depth]⟩
theorem Pn.up{n m:Nat}{t:T}(h:Pn n t)(hm:n<=m):Pn m t:=⟨h.1,Nat.le_trans h.2 hm⟩
theorem Pn.ok{n m:Nat}{x y:T}(h:Pn n x)(h':Pn m y)(hn:n<=60):EqOk x y:=⟨h.1,h'.1,by have:=h.2;omega⟩
theorem Pn.self{n:Nat}{x:T}(h:Pn n x):eqT x x=true:=eqT_self x h.1
abbrev fra(a b:Int):T:=.tup [.int a,.int b]
structure Rt(p q n m:Int):Prop where
 pos:0 < q
 cop:Int.gcd p q=1
 eq:p * m=n * q
theorem Frac.rt{p q a b:Int}(F:Frac p q a b):Rt p q a b:=⟨F.pos,F.cop,F.eq⟩
theorem mul_cl{a b c:Int}(h:a≠0)(e:a * b=a * c):b=c:=Int.eq_of_mul_eq_mul_left h e
theorem Rt.uniq{p q p' q' n m:Int}(hm:m≠0)(A:Rt p q n m)(B:Rt p' q' n m):p=p'/\q=q':=by
 refine low_uniq A.pos B.pos A.cop B.cop (mul_cl hm ?_)
 have e1:=A.eq
 have e2:=B.eq
 have h1:m * (p * q')=(p * m) * q':=by grind
 have h2:m * (p' * q)=(p' * m) * q:=by grind
 rw[h1,h2,e1,e2]
 grind
theorem Rt.same{p q p' q' n m n' m':Int}(hm:m≠0)(hm':m'≠0)(e:n * m'=n' * m)(A:Rt p q n m)(B:Rt p' q' n' m'):p=p'/\q=q':=by
 refine low_uniq A.pos B.pos A.cop B.cop (mul_cl (Int.mul_ne_zero hm hm') ?_)
 have e1:=A.eq
 have e2:=B.eq
 have h1:m * m' * (p * q')=(p * m) * (m' * q'):=by grind
 have h2:m * m' * (p' * q)=(p' * m') * (m * q):=by grind
 rw[h1,h2,e1,e2]
 have h3:n * q * (m' * q')=(n * m') * (q * q'):=by grind
 rw[h3,e]
 grind
theorem Rt.le{p q n m:Int}(hm:m≠0)(A:Rt p q n m):p.natAbs<=n.natAbs/\q.natAbs<=m.natAbs:=by
 have e:=A.eq
 have hq:=A.pos
 have c1:Nat.Coprime q.natAbs p.natAbs:=by
  have:Nat.gcd p.natAbs q.natAbs=1:=A.cop
  exact(Nat.gcd_comm _ _).trans this
 have en:p.natAbs * m.natAbs=n.natAbs * q.natAbs:=by rw[← Int.natAbs_mul,← Int.natAbs_mul,e]
 have d:q.natAbs ∣ m.natAbs:=c1.dvd_of_dvd_mul_left ⟨n.natAbs,by rw[en,Nat.mul_comm]⟩
 obtain⟨k,hk⟩:=d
 have hm':0 < m.natAbs:=by omega
 have k0:0 < k:=by
  rcases Nat.eq_zero_or_pos k with z|z
  ·rw[z,Nat.mul_zero]at hk;omega
  ·exact z
 have hq':0 < q.natAbs:=by omega
 have en2:n.natAbs=p.natAbs * k:=by
  rw[hk]at en
  have:q.natAbs * (p.natAbs * k)=q.natAbs * n.natAbs:=by rw[Nat.mul_comm q.natAbs n.natAbs,← en,Nat.mul_left_comm]
  exact(Nat.eq_of_mul_eq_mul_left hq' this).symm
 exact⟨by rw[en2];exact Nat.le_mul_of_pos_right _ k0,by rw[hk];exact Nat.le_mul_of_pos_right _ k0⟩
theorem Rt.lp{p q n m:Int}{k:Nat}(hm:m≠0)(A:Rt p q n m)(h:Lim k n):Lim k p:=h.le (A.le hm).1
theorem Rt.lq{p q n m:Int}{k:Nat}(hm:m≠0)(A:Rt p q n m)(h:Lim k m):Lim k q:=h.le (A.le hm).2
theorem Rt.sum{p q p' q' n n' m P R:Int}(A:Rt p q n m)(B:Rt p' q' n' m)(F:Frac P R (p * q' + p' * q) (q * q')):Rt P R (n + n') m:=by
 refine⟨F.pos,F.cop,mul_cl (a:=q * q') (by have:=Int.mul_pos A.pos B.pos;omega) ?_⟩
 have e1:=A.eq
 have e2:=B.eq
 have e3:=F.eq
 clear A B F
 grind
theorem Rt.whole(x:Int):Rt x 1 x 1:=⟨by decide,by simp,rfl⟩
theorem Rt.neg{p q n m w:Int}(hm:0 < m)(A:Rt p q n m):(p * w < 0) ↔ (n * w < 0):=by
 have hq:=A.pos
 have e:(p * w) * m=(n * w) * q:=by have:=A.eq;grind
 constructor
 ·intro h
  have h1:=Int.mul_neg_of_neg_of_pos h hm
  rw[e]at h1
  rcases Int.lt_or_le (n * w) 0 with z|z
  ·exact z
  ·have:=Int.mul_nonneg z (Int.le_of_lt hq);omega
 ·intro h
  have h1:=Int.mul_neg_of_neg_of_pos h hq
  rw[← e]at h1
  rcases Int.lt_or_le (p * w) 0 with z|z
  ·exact z
  ·have:=Int.mul_nonneg z (Int.le_of_lt hm);omega
def frG(n m:Int):Int:=if m < 0 then -(Int.gcd n m:Int) else (Int.gcd n m:Int)
def frN(n m:Int):Int:=n.fdiv (frG n m)
def frD(n m:Int):Int:=m.fdiv (frG n m)
def fr(n m:Int):T:=.tup [.int (frN n m),.int (frD n m)]
theorem fr_frac{n m:Int}(hm:m≠0):Frac (frN n m) (frD n m) n m:=by
 unfold frN frD
 refine frac_mk n hm ?_
 unfold frG
 rcases Int.lt_or_lt_of_ne hm with z|z
 ·exact .inr ⟨z,if_pos z⟩
 ·exact .inl ⟨z,if_neg (by omega)⟩
theorem fr_rt{n m:Int}(hm:m≠0):Rt (frN n m) (frD n m) n m:=(fr_frac hm).rt
theorem fr_of{p q n m:Int}(hm:m≠0)(A:Rt p q n m):fra p q=fr n m:=by
 obtain⟨e1,e2⟩:=A.uniq hm (fr_rt hm)
 rw[e1,e2,fr]
theorem fr_eq{n m n' m':Int}(hm:m≠0)(hm':m'≠0)(e:n * m'=n' * m):fr n m=fr n' m':=by
 obtain⟨e1,e2⟩:=(fr_rt hm).same hm hm' e (fr_rt hm')
 rw[fr,fr,e1,e2]
theorem fr_ne{n m n' m':Int}(hm:m≠0)(hm':m'≠0)(h:frN n m=frN n' m'/\frD n m=frD n' m'):n * m'=n' * m:=by
 have A:=fr_rt (n:=n) hm
 have B:=fr_rt (n:=n') hm'
 have e1:=A.eq
 have e2:=B.eq
 have q0:=A.pos
 rw[← h.1,← h.2]at e2
 generalize frN n m=p at e1 e2
 generalize frD n m=q at e1 e2 q0
 refine mul_cl (a:=q) (by omega) ?_
 have h1:q * (n * m')=(n * q) * m':=by grind
 have h2:q * (n' * m)=(n' * q) * m:=by grind
 rw[h1,h2,← e1,← e2]
 grind
theorem fr_one(x:Int):fra x 1=fr x 1:=fr_of (by decide) (Rt.whole x)
theorem eqOk_fr(a b c d:Int):EqOk (fr a b) (fr c d):=eqOk_tup [frN a b,frD a b] [frN c d,frD c d]
theorem eqT_fr{a b c d:Int}(hb:b≠0)(hd:d≠0):eqT (fr a b) (fr c d)=decide (a * d=c * b):=by
 have:eqT (fr a b) (fr c d)=decide (frN a b=frN c d/\frD a b=frD c d):=by simp[fr,eqT,eqTs]
 rw[this]
 refine decide_eq_decide.mpr ⟨fr_ne hb hd,fun e=>?_⟩
 exact(fr_rt hb).same hb hd e (fr_rt hd)
theorem frN_lim{k:Nat}{n m:Int}(hm:m≠0)(h:Lim k n):Lim k (frN n m):=(fr_rt hm).lp hm h
theorem frD_lim{k:Nat}{n m:Int}(hm:m≠0)(h:Lim k m):Lim k (frD n m):=(fr_rt hm).lq hm h
theorem frD_pos{n m:Int}(hm:m≠0):0 < frD n m:=(fr_rt hm).pos
structure Two(k:Nat)(a b c d:Int):Prop where
 hb:b≠0
 hd:d≠0
 la:Lim k a
 lb:Lim k b
 lc:Lim k c
 ld:Lim k d
theorem Two.mono{k k':Nat}{a b c d:Int}(h:Two k a b c d)(hk:k<=k'):Two k' a b c d:=⟨h.hb,h.hd,h.la.mono hk,h.lb.mono hk,h.lc.mono hk,h.ld.mono hk⟩
theorem fr_sum{a b c d:Int}(hb:b≠0)(hd:d≠0):fr (frN a b * frD c d + frN c d * frD a b) (frD a b * frD c d)=fr (a * d + c * b) (b * d):=by
 have A:=fr_rt (n:=a) hb
 have B:=fr_rt (n:=c) hd
 refine fr_eq (by have:=Int.mul_pos A.pos B.pos;omega) (Int.mul_ne_zero hb hd) ?_
 have e1:=A.eq
 have e2:=B.eq
 generalize frN a b=p at e1 ⊢
 generalize frD a b=q at e1 ⊢
 generalize frN c d=r at e2 ⊢
 generalize frD c d=s at e2 ⊢
 clear A B
 have h1:(p * s + r * q) * (b * d)=(p * b) * (s * d) + (r * d) * (q * b):=by grind
 rw[h1,e1,e2]
 grind
theorem fr_sub{a b c d:Int}(hb:b≠0)(hd:d≠0):fr (frN a b * frD c d - frN c d * frD a b) (frD a b * frD c d)=fr (a * d - c * b) (b * d):=by
 have A:=fr_rt (n:=a) hb
 have B:=fr_rt (n:=c) hd
 refine fr_eq (by have:=Int.mul_pos A.pos B.pos;omega) (Int.mul_ne_zero hb hd) ?_
 have e1:=A.eq
 have e2:=B.eq
 generalize frN a b=p at e1 ⊢
 generalize frD a b=q at e1 ⊢
 generalize frN c d=r at e2 ⊢
 generalize frD c d=s at e2 ⊢
 clear A B
 have h1:(p * s - r * q) * (b * d)=(p * b) * (s * d) - (r * d) * (q * b):=by grind
 rw[h1,e1,e2]
 grind
theorem fr_mul{a b c d:Int}(hb:b≠0)(hd:d≠0):fr (frN a b * frN c d) (frD a b * frD c d)=fr (a * c) (b * d):=by
 have A:=fr_rt (n:=a) hb
 have B:=fr_rt (n:=c) hd
 refine fr_eq (by have:=Int.mul_pos A.pos B.pos;omega) (Int.mul_ne_zero hb hd) ?_
 have e1:=A.eq
 have e2:=B.eq
 generalize frN a b=p at e1 ⊢
 generalize frD a b=q at e1 ⊢
 generalize frN c d=r at e2 ⊢
 generalize frD c d=s at e2 ⊢
 clear A B
 have h1:(p * r) * (b * d)=(p * b) * (r * d):=by grind
 rw[h1,e1,e2]
 grind
theorem frN_ne{c d:Int}(hd:d≠0)(hc:c≠0):frN c d≠0:=fun z=>by
 have e:=(fr_rt (n:=c) hd).eq
 have q:=frD_pos (n:=c) hd
 rw[z,Int.zero_mul]at e
 exact Int.mul_ne_zero hc (by omega) e.symm
theorem fr_quo{a b c d:Int}(hb:b≠0)(hd:d≠0)(hc:c≠0):fr (frN a b * frD c d) (frD a b * frN c d)=fr (a * d) (b * c):=by
 have A:=fr_rt (n:=a) hb
 have B:=fr_rt (n:=c) hd
 have nz:=frN_ne hd hc
 refine fr_eq (Int.mul_ne_zero (by have:=A.pos;omega) nz) (Int.mul_ne_zero hb hc) ?_
 have e1:=A.eq
 have e2:=B.eq
 generalize frN a b=p at e1 ⊢
 generalize frD a b=q at e1 ⊢
 generalize frN c d=r at e2 ⊢
 generalize frD c d=s at e2 ⊢
 clear A B nz
 have h1:(p * s) * (b * c)=(p * b) * (c * s):=by grind
 rw[h1,e1,← e2]
 grind
theorem fr_under{a b c d:Int}(hb:0 < b)(hd:0 < d):(frN a b * frD c d < frN c d * frD a b) ↔ (a * d < c * b):=by
 have A:=fr_rt (n:=a) (m:=b) (by omega)
 have B:=fr_rt (n:=c) (m:=d) (by omega)
 have e1:=A.eq
 have e2:=B.eq
 have q0:=A.pos
 have s0:=B.pos
 generalize frN a b=p at e1 ⊢
 generalize frD a b=q at e1 q0 ⊢
 generalize frN c d=r at e2 ⊢
 generalize frD c d=s at e2 s0 ⊢
 clear A B
 have h1:(p * s) * (b * d)=(a * d) * (q * s):=by
  have e:(p * s) * (b * d)=(p * b) * (s * d):=by grind
  rw[e,e1]
  grind
 have h2:(r * q) * (b * d)=(c * b) * (q * s):=by
  have e:(r * q) * (b * d)=(r * d) * (q * b):=by grind
  rw[e,e2]
  grind
 have bd:=Int.mul_pos hb hd
 have qs:=Int.mul_pos q0 s0
 constructor
 ·intro h
  have:=Int.mul_lt_mul_of_pos_right h bd
  rw[h1,h2]at this
  exact Int.lt_of_mul_lt_mul_right this (Int.le_of_lt qs)
 ·intro h
  have:=Int.mul_lt_mul_of_pos_right h qs
  rw[← h1,← h2]at this
  exact Int.lt_of_mul_lt_mul_right this (Int.le_of_lt bd)
theorem fr_sgn{a b:Int}(hb:0 < b):(frN a b < 0 ↔ a < 0)/\(0 < frN a b ↔ 0 < a)/\(frN a b=0 ↔ a=0):=by
 have A:=fr_rt (n:=a) (m:=b) (by omega)
 have e1:=A.eq
 have q0:=A.pos
 generalize frN a b=p at e1 ⊢
 generalize frD a b=q at e1 q0 ⊢
 clear A
 rcases Int.lt_trichotomy p 0 with z|z|z
 ·have h:=Int.mul_neg_of_neg_of_pos z hb
  rw[e1]at h
  have:a < 0:=by
   rcases Int.lt_or_le a 0 with y|y
   ·exact y
   ·have:=Int.mul_nonneg y (Int.le_of_lt q0);omega
  omega
 ·rw[z,Int.zero_mul]at e1
  have:=(Int.mul_eq_zero.mp e1.symm).resolve_right (by omega)
  omega
 ·have h:=Int.mul_pos z hb
  rw[e1]at h
  have:0 < a:=by
   rcases Int.lt_or_le 0 a with y|y
   ·exact y
   ·have:=Int.mul_nonneg (show 0 <= -a by omega) (Int.le_of_lt q0)
    rw[Int.neg_mul]at this
    omega
  omega
theorem fr_sum1{a c m:Int}(hm:m≠0):fr (a * m + c * m) (m * m)=fr (a + c) m:=fr_eq (Int.mul_ne_zero hm hm) hm (by grind)
theorem fr_sub1{a c m:Int}(hm:m≠0):fr (a * m - c * m) (m * m)=fr (a - c) m:=fr_eq (Int.mul_ne_zero hm hm) hm (by grind)
theorem fr_zero{m:Int}(hm:m≠0):fra 0 1=fr 0 m:=by
 rw[fr_one]
 exact fr_eq (by decide) hm (by simp)
theorem abs_ite(a:Int):(if a < 0 then -a else a)=(a.natAbs:Int):=by split<;>omega
def isWh:T->Bool
 | .int _=>true
 | _=>false
def Z0M:SpT:=fun ts Q=>∃t,ts=[t]/\noExc t/\Q (.bl (isWh t))
theorem Z4z:∀ts Q,Z0M ts Q->ts.length=1:=by rintro ts Q ⟨_,e,_⟩;subst e;rfl
def Z2D:WS :=
 (sRet (wAndV (wIsi .int (wVar 0)) (wNotV (wIsi .bool (wVar 0)))))
theorem Z4W:∀ts Q,Z0M ts Q->Z2D {nx:=fun _=>Q .non,rt:=Q} (startT 1 ts):=by
 rintro _ Q ⟨t,rfl,ne,h⟩
 unfold Z2D
 walk_at "tw"
 cases t<;>simp[isK,isWh,noExc]at h ne ⊢ <;> exact h
def Z0s:SpT:=fun ts Q=>∃a b:Int,ts=[.int a,.int b]/\Q (.int (Int.gcd a b))
theorem Z3a:∀ts Q,Z0s ts Q->ts.length=2:=by rintro ts Q ⟨_,_,e,_⟩;subst e;rfl
def Z0h:WS :=
 (sSeq (sSet 2 (w2 rModT (wVar 0) (wVar 1)))
  (sSeq (sSet 0 (wVar 1))
  (sSet 1 (wVar 2))))
def Z1P:WS :=
 (sSeq (sWhile (tCmpT cNeT (wVar 1) (wC (.int 0))) Z0h)
  (sRet (wCB rAbsT (aCons (wVar 0) aNil))))
theorem Z3r:∀ts Q,Z0s ts Q->Z1P {nx:=fun _=>Q .non,rt:=Q} (startT 3 ts):=by
 rintro _ Q ⟨a,b,rfl,h⟩
 unfold Z1P
 walk_at "tw"
 refine⟨fun m τ=>∃(x y:Int) (s:Slot),τ=[.val (.int x),.val (.int y),s]/\Int.gcd x y=Int.gcd a b/\m=y.natAbs,⟨_,_,_,_,rfl,rfl,rfl⟩,?_⟩
 rintro m τ ⟨x,y,s,rfl,hg,rfl⟩
 unfold Z0h
 walk_at "tw"
 refine⟨fun c=>?_,fun c=>?_⟩
 ·have c':y≠0:=by simpa using c
  exact⟨c',_,fmod_abs_lt x c',_,_,_,rfl,by rw[gcd_step];exact hg,rfl⟩
 ·have e:y=0:=by simpa using c
  subst e
  rw[Int.gcd_zero_right]at hg
  rw[abs_ite,hg]
  exact h
def Z0i:SpT:=fun ts Q=>∃a b:Int,ts=[.int a,.int b]/\b≠0/\Lim 2000 b/\Q (fr a b)
theorem Z4A:∀ts Q,Z0i ts Q->ts.length=2:=by rintro ts Q ⟨_,_,e,_⟩;subst e;rfl
def Z18:WS :=
 (sRet (wTup (aCons (w2 rDivT (wVar 0) (wVar 2)) (aCons (w2 rDivT (wVar 1) (wVar 2)) aNil))))
def Z3b:WS :=
 (sSeq (sIf (tOrT (tNotT (tVal (wCall Z0M (aCons (wVar 0) aNil)))) (tNotT (tVal (wCall Z0M (aCons (wVar 1) aNil))))) sNever sNext)
  (sSeq (sIf (tCmpT cEqT (wVar 1) (wC (.int 0))) sNever sNext)
  (sSeq (sSet 2 (wCall Z0s (aCons (wVar 0) (aCons (wVar 1) aNil))))
  (sSeq (sIf (tCmpT cLtT (wVar 1) (wC (.int 0))) (sSet 2 (wNeg (wVar 2))) sNext)
  Z18))))
theorem Z4X:∀ts Q,Z0i ts Q->Z3b {nx:=fun _=>Q .non,rt:=Q} (startT 3 ts):=by
 rintro _ Q ⟨a,b,rfl,hb,lb,h⟩
 simp only[Z3b,Z18]
 walk_at "tw"
 have g0:0 < Int.gcd a b:=Int.gcd_pos_iff.mpr (Or.inr hb)
 have gl:(Int.gcd a b:Int).natAbs<=b.natAbs:=by
  have d:=Int.gcd_dvd_right a b
  have:=Int.natAbs_dvd_natAbs.mpr d
  exact Nat.le_of_dvd (by omega) this
 refine⟨_,rfl,trivial,?_⟩
 walk_at "tw"
 simp only[isWh]
 refine⟨fun z=>(by cases z),fun _=>⟨_,rfl,trivial,?_⟩⟩
 walk_at "tw"
 simp only[isWh]
 refine⟨fun z=>(by cases z),fun _=>⟨fun c=>hb (of_decide_eq_true c),fun _=>⟨a,b,rfl,?_⟩⟩⟩
 walk_at "tw"
 refine⟨fun c=>?_,fun c=>?_⟩
 ·have c':b < 0:=of_decide_eq_true c
  have dv:DivOk (-(Int.gcd a b:Int)):=divOk (by omega) (lb.le (by omega))
  unfold fr frN frD frG at h
  rw[if_pos c']at h
  exact⟨dv,dv,h⟩
 ·have c':¬ b < 0:=of_decide_eq_false c
  have dv:DivOk (Int.gcd a b:Int):=divOk (by omega) (lb.le gl)
  unfold fr frN frD frG at h
  rw[if_neg c']at h
  exact⟨dv,dv,h⟩
def Z03:SpT:=fun ts Q=>∃a b c d:Int,ts=[fr a b,fr c d]/\Two 900 a b c d/\Q (fr (a * d + c * b) (b * d))
theorem Z4e:∀ts Q,Z03 ts Q->ts.length=2:=by rintro ts Q ⟨_,_,_,_,e,_⟩;subst e;rfl
def Z2l:WS :=
 (sRet (wCall Z0i (aCons (w2 rAddT (w2 rMulT (w2 rIxTT (wVar 0) (wC (.int 0))) (w2 rIxTT (wVar 1) (wC (.int 1)))) (w2 rMulT (w2 rIxTT (wVar 1) (wC (.int 0))) (w2 rIxTT (wVar 0) (wC (.int 1))))) (aCons (w2 rMulT (w2 rIxTT (wVar 0) (wC (.int 1))) (w2 rIxTT (wVar 1) (wC (.int 1)))) aNil))))
theorem Z4B:∀ts Q,Z03 ts Q->Z2l {nx:=fun _=>Q .non,rt:=Q} (startT 2 ts):=by
 rintro _ Q ⟨a,b,c,d,rfl,⟨hb,hd,la,lb,lc,ld⟩,h⟩
 rw[← fr_sum hb hd]at h
 have q:=Int.mul_pos (frD_pos (n:=a) hb) (frD_pos (n:=c) hd)
 have la:=frN_lim hb la
 have lb:=frD_lim (n:=a) hb lb
 have lc:=frN_lim hd lc
 have ld:=frD_lim (n:=c) hd ld
 unfold Z2l fr
 walk_at "tw"
 exact⟨mulOk la ld,mulOk lc lb,mulOk lb ld,_,_,rfl,by omega,(lb.mul ld).mono (by decide),h⟩
def Z00:SpT:=fun ts Q=>∃a b c d:Int,ts=[fr a b,fr c d]/\Two 900 a b c d/\Q (fr (a * d - c * b) (b * d))
theorem Z44:∀ts Q,Z00 ts Q->ts.length=2:=by rintro ts Q ⟨_,_,_,_,e,_⟩;subst e;rfl
def Z27:WS :=
 (sRet (wCall Z0i (aCons (w2 rSubT (w2 rMulT (w2 rIxTT (wVar 0) (wC (.int 0))) (w2 rIxTT (wVar 1) (wC (.int 1)))) (w2 rMulT (w2 rIxTT (wVar 1) (wC (.int 0))) (w2 rIxTT (wVar 0) (wC (.int 1))))) (aCons (w2 rMulT (w2 rIxTT (wVar 0) (wC (.int 1))) (w2 rIxTT (wVar 1) (wC (.int 1)))) aNil))))
theorem Z4f:∀ts Q,Z00 ts Q->Z27 {nx:=fun _=>Q .non,rt:=Q} (startT 2 ts):=by
 rintro _ Q ⟨a,b,c,d,rfl,⟨hb,hd,la,lb,lc,ld⟩,h⟩
 rw[← fr_sub hb hd]at h
 have q:=Int.mul_pos (frD_pos (n:=a) hb) (frD_pos (n:=c) hd)
 have la:=frN_lim hb la
 have lb:=frD_lim (n:=a) hb lb
 have lc:=frN_lim hd lc
 have ld:=frD_lim (n:=c) hd ld
 unfold Z27 fr
 walk_at "tw"
 exact⟨mulOk la ld,mulOk lc lb,mulOk lb ld,_,_,rfl,by omega,(lb.mul ld).mono (by decide),h⟩
def Z01:SpT:=fun ts Q=>∃a b c d:Int,ts=[fr a b,fr c d]/\Two 900 a b c d/\Q (fr (a * c) (b * d))
theorem Z3U:∀ts Q,Z01 ts Q->ts.length=2:=by rintro ts Q ⟨_,_,_,_,e,_⟩;subst e;rfl
def Z1X:WS :=
 (sRet (wCall Z0i (aCons (w2 rMulT (w2 rIxTT (wVar 0) (wC (.int 0))) (w2 rIxTT (wVar 1) (wC (.int 0)))) (aCons (w2 rMulT (w2 rIxTT (wVar 0) (wC (.int 1))) (w2 rIxTT (wVar 1) (wC (.int 1)))) aNil))))
theorem Z45:∀ts Q,Z01 ts Q->Z1X {nx:=fun _=>Q .non,rt:=Q} (startT 2 ts):=by
 rintro _ Q ⟨a,b,c,d,rfl,⟨hb,hd,la,lb,lc,ld⟩,h⟩
 rw[← fr_mul hb hd]at h
 have q:=Int.mul_pos (frD_pos (n:=a) hb) (frD_pos (n:=c) hd)
 have la:=frN_lim hb la
 have lb:=frD_lim (n:=a) hb lb
 have lc:=frN_lim hd lc
 have ld:=frD_lim (n:=c) hd ld
 unfold Z1X fr
 walk_at "tw"
 exact⟨mulOk la lc,mulOk lb ld,_,_,rfl,by omega,(lb.mul ld).mono (by decide),h⟩
def Z0N:SpT:=fun ts Q=>∃a b c d:Int,ts=[fr a b,fr c d]/\Two 900 a b c d/\c≠0/\Q (fr (a * d) (b * c))
theorem Z4C:∀ts Q,Z0N ts Q->ts.length=2:=by rintro ts Q ⟨_,_,_,_,e,_⟩;subst e;rfl
def Z2E:WS :=
 (sRet (wCall Z0i (aCons (w2 rMulT (w2 rIxTT (wVar 0) (wC (.int 0))) (w2 rIxTT (wVar 1) (wC (.int 1)))) (aCons (w2 rMulT (w2 rIxTT (wVar 0) (wC (.int 1))) (w2 rIxTT (wVar 1) (wC (.int 0)))) aNil))))
theorem Z4Y:∀ts Q,Z0N ts Q->Z2E {nx:=fun _=>Q .non,rt:=Q} (startT 2 ts):=by
 rintro _ Q ⟨a,b,c,d,rfl,⟨hb,hd,la,lb,lc,ld⟩,hc,h⟩
 rw[← fr_quo hb hd hc]at h
 have q:=frD_pos (n:=a) hb
 have nz:=frN_ne hd hc
 have la:=frN_lim hb la
 have lb:=frD_lim (n:=a) hb lb
 have lc:=frN_lim hd lc
 have ld:=frD_lim (n:=c) hd ld
 unfold Z2E fr
 walk_at "tw"
 exact⟨mulOk la ld,mulOk lb lc,_,_,rfl,Int.mul_ne_zero (by omega) nz,(lb.mul lc).mono (by decide),h⟩
def Z0O:SpT:=fun ts Q=>∃a b c d:Int,ts=[fr a b,fr c d]/\0 < b/\0 < d/\Two 900 a b c d/\Q (.bl (decide (a * d < c * b)))
theorem Z4D:∀ts Q,Z0O ts Q->ts.length=2:=by rintro ts Q ⟨_,_,_,_,e,_⟩;subst e;rfl
def Z2F:WS :=
 (sRet (wCmp cLtT (w2 rMulT (w2 rIxTT (wVar 0) (wC (.int 0))) (w2 rIxTT (wVar 1) (wC (.int 1)))) (w2 rMulT (w2 rIxTT (wVar 1) (wC (.int 0))) (w2 rIxTT (wVar 0) (wC (.int 1))))))
theorem Z4Z:∀ts Q,Z0O ts Q->Z2F {nx:=fun _=>Q .non,rt:=Q} (startT 2 ts):=by
 rintro _ Q ⟨a,b,c,d,rfl,b0,d0,⟨hb,hd,la,lb,lc,ld⟩,h⟩
 have e:decide (a * d < c * b)=decide (frN a b * frD c d < frN c d * frD a b):=decide_eq_decide.mpr (fr_under b0 d0).symm
 rw[e]at h
 have la:=frN_lim hb la
 have lb:=frD_lim (n:=a) hb lb
 have lc:=frN_lim hd lc
 have ld:=frD_lim (n:=c) hd ld
 unfold Z2F fr
 walk_at "tw"
 exact⟨mulOk la ld,mulOk lc lb,h⟩
abbrev tri(a b c:Int):T:=.tup [.int a,.int b,.int c]
abbrev plt(a b c d e f x y z:Int):T:=.tup [tri a b c,tri d e f,tri x y z]
abbrev Tr:=Int×Int×Int
abbrev trT(d:Tr):T:=tri d.1 d.2.1 d.2.2
abbrev Lim3(k:Nat)(u v w:Int):Prop:=Lim k u/\Lim k v/\Lim k w
abbrev LimT(k:Nat)(d:Tr):Prop:=Lim3 k d.1 d.2.1 d.2.2
theorem Lim3.mono{k k':Nat}{a b c:Int}(h:Lim3 k a b c)(hk:k<=k'):Lim3 k' a b c:=⟨h.1.mono hk,h.2.1.mono hk,h.2.2.mono hk⟩
abbrev crs(a b:Tr):Tr:=(a.2.1 * b.2.2 - a.2.2 * b.2.1,a.2.2 * b.1 - a.1 * b.2.2,a.1 * b.2.1 - a.2.1 * b.1)
abbrev dotI(a b:Tr):Int:=a.1 * b.1 + a.2.1 * b.2.1 + a.2.2 * b.2.2
abbrev det(a b c:Tr):Int:=a.1 * (b.2.1 * c.2.2 - b.2.2 * c.2.1) + a.2.1 * (b.2.2 * c.1 - b.1 * c.2.2) + a.2.2 * (b.1 * c.2.1 - b.2.1 * c.1)
abbrev pt(t:Tr)(m:Int):T:=.tup [fr t.1 m,fr t.2.1 m,fr t.2.2 m]
abbrev hpl(h:Tr):T:=.tup [fr h.1 h.2.2,fr h.2.1 h.2.2]
abbrev ptl(c s o:Tr):T:=.tup [trT c,trT s,trT o]
theorem lim_crs{m n k:Nat}{a b:Tr}(ha:LimT m a)(hb:LimT n b)(hk:m + n + 1<=k):LimT k (crs a b):=by
 have z:∀{p q r s:Int},Lim m p->Lim m q->Lim n r->Lim n s->Lim k (p * s - q * r):=fun hp hq hr hs=>((hp.mul hs).sub (hq.mul hr)).mono (by simp;omega)
 exact⟨z ha.2.1 ha.2.2 hb.2.1 hb.2.2,z ha.2.2 ha.1 hb.2.2 hb.1,z ha.1 ha.2.1 hb.1 hb.2.1⟩
theorem lim_dotI{m n k:Nat}{a b:Tr}(ha:LimT m a)(hb:LimT n b)(hk:m + n + 2<=k):Lim k (dotI a b):=(((ha.1.mul hb.1).add (ha.2.1.mul hb.2.1)).add (ha.2.2.mul hb.2.2)).mono (by simp;omega)
abbrev tless(t c:Tr)(m:Int):Tr:=(t.1 - c.1 * m,t.2.1 - c.2.1 * m,t.2.2 - c.2.2 * m)
theorem lim_tless{k j n:Nat}{t c:Tr}{m:Int}(ht:LimT k t)(hc:LimT k c)(hm:Lim j m)(hn:k + j + 1<=n):LimT n (tless t c m):=by
 have z:∀{p q:Int},Lim k p->Lim k q->Lim n (p - q * m):=fun hp hq=>(hp.sub (hq.mul hm)).mono (by simp;omega)
 exact⟨z ht.1 hc.1,z ht.2.1 hc.2.1,z ht.2.2 hc.2.2⟩
def Z1w:SpT:=fun ts Q=>∃a b:Tr,ts=[trT a,trT b]/\LimT 2000 a/\LimT 2000 b/\Q (.int (dotI a b))
theorem Z5m:∀ts Q,Z1w ts Q->ts.length=2:=by rintro ts Q ⟨_,_,e,_⟩;subst e;rfl
def Z3n:WS :=
 (sRet (w2 rAddT (w2 rAddT (w2 rMulT (w2 rIxTT (wVar 0) (wC (.int 0))) (w2 rIxTT (wVar 1) (wC (.int 0)))) (w2 rMulT (w2 rIxTT (wVar 0) (wC (.int 1))) (w2 rIxTT (wVar 1) (wC (.int 1))))) (w2 rMulT (w2 rIxTT (wVar 0) (wC (.int 2))) (w2 rIxTT (wVar 1) (wC (.int 2))))))
theorem Z5x:∀ts Q,Z1w ts Q->Z3n {nx:=fun _=>Q .non,rt:=Q} (startT 2 ts):=by
 rintro _ Q ⟨⟨a,b,c⟩,⟨d,e,f⟩,rfl,⟨la,lb,lc⟩,⟨ld,le,lf⟩,h⟩
 unfold Z3n
 walk_at "tw"
 exact⟨mulOk la ld,mulOk lb le,mulOk lc lf,h⟩
def Z0P:SpT:=fun ts Q=>∃a b:Tr,ts=[trT a,trT b]/\LimT 1000 a/\LimT 1000 b/\Q (trT (crs a b))
theorem Z4E:∀ts Q,Z0P ts Q->ts.length=2:=by rintro ts Q ⟨_,_,e,_⟩;subst e;rfl
def Z2G:WS :=
 (sRet (wTup (aCons (w2 rSubT (w2 rMulT (w2 rIxTT (wVar 0) (wC (.int 1))) (w2 rIxTT (wVar 1) (wC (.int 2)))) (w2 rMulT (w2 rIxTT (wVar 0) (wC (.int 2))) (w2 rIxTT (wVar 1) (wC (.int 1))))) (aCons (w2 rSubT (w2 rMulT (w2 rIxTT (wVar 0) (wC (.int 2))) (w2 rIxTT (wVar 1) (wC (.int 0)))) (w2 rMulT (w2 rIxTT (wVar 0) (wC (.int 0))) (w2 rIxTT (wVar 1) (wC (.int 2))))) (aCons (w2 rSubT (w2 rMulT (w2 rIxTT (wVar 0) (wC (.int 0))) (w2 rIxTT (wVar 1) (wC (.int 1)))) (w2 rMulT (w2 rIxTT (wVar 0) (wC (.int 1))) (w2 rIxTT (wVar 1) (wC (.int 0))))) aNil)))))
theorem Z50:∀ts Q,Z0P ts Q->Z2G {nx:=fun _=>Q .non,rt:=Q} (startT 2 ts):=by
 rintro _ Q ⟨⟨a,b,c⟩,⟨d,e,f⟩,rfl,⟨la,lb,lc⟩,⟨ld,le,lf⟩,h⟩
 unfold Z2G
 walk_at "tw"
 exact⟨mulOk lb lf,mulOk lc le,mulOk lc ld,mulOk la lf,mulOk la le,mulOk lb ld,h⟩
def Z0z:SpT:=fun ts Q=>∃(t:T) (s o:Tr),ts=[.tup [t,trT s,trT o]]/\LimT 1000 s/\LimT 1000 o/\Q (trT (crs s o))
theorem Z4F:∀ts Q,Z0z ts Q->ts.length=1:=by rintro ts Q ⟨_,_,_,e,_⟩;subst e;rfl
def Z2H:WS :=
 (sRet (wCall Z0P (aCons (w2 rIxTT (wVar 0) (wC (.int 1))) (aCons (w2 rIxTT (wVar 0) (wC (.int 2))) aNil))))
theorem Z51:∀ts Q,Z0z ts Q->Z2H {nx:=fun _=>Q .non,rt:=Q} (startT 1 ts):=by
 rintro _ Q ⟨t,s,o,rfl,ls,lo,h⟩
 unfold Z2H
 walk_at "go"
 exact⟨s,o,rfl,ls,lo,h⟩
def Z0F:SpT:=fun ts Q=>∃(t c:Tr) (m:Int),ts=[pt t m,trT c]/\LimT 300 t/\LimT 300 c/\m≠0/\Lim 300 m/\Q (pt (tless t c m) m)
theorem Z46:∀ts Q,Z0F ts Q->ts.length=2:=by rintro ts Q ⟨_,_,_,e,_⟩;subst e;rfl
def Z19:WE :=
 (wCall Z00 (aCons (w2 rIxTT (wVar 1) (wVar 0)) (aCons (wTup (aCons (w2 rIxTT (wVar 2) (wVar 0)) (aCons (wC (.int 1)) aNil))) aNil)))
def Z2N:WS :=
 (sRet (wCB rTupleT (aCons (wComp (iRange1 (aCons (wC (.int 3)) aNil)) (gN 0) tTrue Z19 1 [0,1]) aNil)))
theorem one9:Lim 900 (1:Int):=Lim.of (by decide) (by decide)
theorem up900{i:Int}(h:Lim 300 i):Lim 900 i:=h.mono (by decide)
theorem Z4g:∀ts Q,Z0F ts Q->Z2N {nx:=fun _=>Q .non,rt:=Q} (startT 2 ts):=by
 rintro _ Q ⟨⟨t0,t1,t2⟩,⟨c0,c1,c2⟩,m,rfl,lt,lc,hm,lm,h⟩
 unfold Z2N
 obtain⟨W0,hW0⟩:∃W,W=Z19:=⟨_,rfl⟩
 rw[← hW0]
 have c0:∀{xs cs:List T}{k X C:Int}{Q:T->Prop},atI xs k=some (fr X m)->atI cs k=some (.int C)->Lim 300 X->Lim 300 C->Q (fr (X - C * m) m)->W0 [.val (.int k),.val (.tup xs),.val (.tup cs)] Q:=fun {xs cs k X C Q} ex ec lX lC hQ=>by
  rw[hW0]
  unfold Z19
  walk_at "go"
  rw[ex]
  walk_at "go"
  rw[ec]
  walk_at "go"
  refine⟨X,m,C,1,congrArg (fun x=>[fr X m,x]) (fr_one C),⟨hm,by decide,up900 lX,up900 lm,up900 lC,one9⟩,?_⟩
  rw[Int.mul_one,Int.mul_one]
  exact hQ
 walk_at "go"
 refine c0 (atI0 _ _) (atI0 _ _) lt.1 lc.1 ?_
 walk_at "go"
 refine c0 (atI1 _ _ _) (atI1 _ _ _) lt.2.1 lc.2.1 ?_
 walk_at "go"
 refine c0 (atI2 _ _ _ _) (atI2 _ _ _ _) lt.2.2 lc.2.2 ?_
 walk_at "go"
 exact h
def Z0A:SpT:=fun ts Q=>∃(t n:Tr) (m:Int),ts=[pt t m,trT n]/\LimT 300 t/\LimT 300 n/\m≠0/\Lim 300 m/\Q (fr (dotI t n) m)
theorem Z4h:∀ts Q,Z0A ts Q->ts.length=2:=by rintro ts Q ⟨_,_,_,e,_⟩;subst e;rfl
def Z1h:WE :=
 (wCall Z01 (aCons (w2 rIxTT (wVar 1) (wVar 0)) (aCons (wTup (aCons (w2 rIxTT (wVar 2) (wVar 0)) (aCons (wC (.int 1)) aNil))) aNil)))
def Z2Z:WS :=
 (sSeq (sSet 2 (wComp (iRange1 (aCons (wC (.int 3)) aNil)) (gN 0) tTrue Z1h 1 [0,1]))
  (sRet (wCall Z03 (aCons (w2 rIxTT (wVar 2) (wC (.int 0))) (aCons (wCall Z03 (aCons (w2 rIxTT (wVar 2) (wC (.int 1))) (aCons (w2 rIxTT (wVar 2) (wC (.int 2))) aNil))) aNil)))))
theorem Z4G:∀ts Q,Z0A ts Q->Z2Z {nx:=fun _=>Q .non,rt:=Q} (startT 3 ts):=by
 rintro _ Q ⟨⟨t0,t1,t2⟩,⟨n0,n1,n2⟩,m,rfl,⟨lt0,lt1,lt2⟩,⟨ln0,ln1,ln2⟩,hm,lm,h⟩
 simp only at lt0 lt1 lt2 ln0 ln1 ln2
 have up6:∀{i:Int},Lim (300 + 300) i->Lim 900 i:=fun h=>h.mono (by decide)
 unfold Z2Z
 obtain⟨W0,hW0⟩:∃W,W=Z1h:=⟨_,rfl⟩
 rw[← hW0]
 have c0:∀{xs cs:List T}{k X C:Int}{Q:T->Prop},atI xs k=some (fr X m)->atI cs k=some (.int C)->Lim 300 X->Lim 300 C->Q (fr (X * C) m)->W0 [.val (.int k),.val (.tup xs),.val (.tup cs)] Q:=fun {xs cs k X C Q} ex ec lX lC hQ=>by
  rw[hW0]
  unfold Z1h
  walk_at "go"
  rw[ex]
  walk_at "go"
  rw[ec]
  walk_at "go"
  refine⟨X,m,C,1,congrArg (fun x=>[fr X m,x]) (fr_one C),⟨hm,by decide,up900 lX,up900 lm,up900 lC,one9⟩,?_⟩
  rw[Int.mul_one]
  exact hQ
 walk_at "go"
 refine c0 (atI0 _ _) (atI0 _ _) lt0 ln0 ?_
 walk_at "go"
 refine c0 (atI1 _ _ _) (atI1 _ _ _) lt1 ln1 ?_
 walk_at "go"
 refine c0 (atI2 _ _ _ _) (atI2 _ _ _ _) lt2 ln2 ?_
 walk_at "go"
 refine⟨t1 * n1,m,t2 * n2,m,rfl,⟨hm,hm,up6 (lt1.mul ln1),up900 lm,up6 (lt2.mul ln2),up900 lm⟩,?_⟩
 rw[fr_sum1 hm]
 walk_at "go"
 refine⟨t0 * n0,m,t1 * n1 + t2 * n2,m,rfl,⟨hm,hm,up6 (lt0.mul ln0),up900 lm,((lt1.mul ln1).add (lt2.mul ln2)).mono (by decide),up900 lm⟩,?_⟩
 rw[fr_sum1 hm]
 rw[show dotI (t0,t1,t2) (n0,n1,n2)=t0 * n0 + (t1 * n1 + t2 * n2) by simp only[dotI];omega]at h
 exact h
abbrev meet(c s o t d:Tr)(m:Int):Tr:=(dotI (tless t c m) (crs o d),dotI (tless t c m) (crs d s),m * dotI (crs s o) d)
def Z1a:SpT:=fun ts Q=>∃(c s o t d:Tr) (m:Int),ts=[ptl c s o,pt t m,trT d]/\(LimT 50 c/\LimT 50 s/\LimT 50 o/\LimT 100 d)/\LimT 150 t/\m≠0/\Lim 100 m ∧
 (dotI (crs s o) d=0->Q .non)/\(dotI (crs s o) d≠0->Q (hpl (meet c s o t d m)))
theorem Z47:∀ts Q,Z1a ts Q->ts.length=3:=by rintro ts Q ⟨_,_,_,_,_,_,e,_⟩;subst e;rfl
def Z28:WS :=
 (sSeq (sSet 3 (wCall Z1w (aCons (wCall Z0z (aCons (wVar 0) aNil)) (aCons (wVar 2) aNil))))
  (sSeq (sIf (tCmpT cEqT (wVar 3) (wC (.int 0))) (sRet (wC .non)) sNext)
  (sSeq (sSet 4 (wCall Z0F (aCons (wVar 1) (aCons (w2 rIxTT (wVar 0) (wC (.int 0))) aNil))))
  (sSeq (sSet 5 (wCall Z0A (aCons (wVar 4) (aCons (wCall Z0P (aCons (w2 rIxTT (wVar 0) (wC (.int 2))) (aCons (wVar 2) aNil))) aNil))))
  (sSeq (sSet 6 (wCall Z0A (aCons (wVar 4) (aCons (wCall Z0P (aCons (wVar 2) (aCons (w2 rIxTT (wVar 0) (wC (.int 1))) aNil))) aNil))))
  (sRet (wTup (aCons (wCall Z0N (aCons (wVar 5) (aCons (wTup (aCons (wVar 3) (aCons (wC (.int 1)) aNil))) aNil))) (aCons (wCall Z0N (aCons (wVar 6) (aCons (wTup (aCons (wVar 3) (aCons (wC (.int 1)) aNil))) aNil))) aNil)))))))))
theorem Z4i:∀ts Q,Z1a ts Q->Z28 {nx:=fun _=>Q .non,rt:=Q} (startT 7 ts):=by
 rintro _ Q ⟨c,s,o,t,d,m,rfl,⟨lc,ls,lo,ld⟩,lt,hm,lm,h0,h1⟩
 have lF:=lim_crs ls lo (k:=101) (by decide)
 have lW:=lim_dotI lF ld (k:=203) (by decide)
 have lB:=lim_tless (lt.mono (show 150<=150 by decide)) (lc.mono (show 50<=150 by decide)) lm (n:=251) (by decide)
 have lod:=lim_crs lo ld (k:=151) (by decide)
 have lds:=lim_crs ld ls (k:=151) (by decide)
 have lS:=lim_dotI lB lod (k:=404) (by decide)
 have lT:=lim_dotI lB lds (k:=404) (by decide)
 unfold Z28
 walk_at "go"
 refine⟨_,s,o,rfl,ls.mono (by decide),lo.mono (by decide),?_⟩
 walk_at "go"
 refine⟨crs s o,d,rfl,lF.mono (by decide),ld.mono (by decide),?_⟩
 walk_at "go"
 refine⟨fun z=>?_,fun z=>?_⟩
 ·walk_at "go"
  exact h0 (of_decide_eq_true z)
 ·have hW:=of_decide_eq_false z
  have q:=h1 hW
  walk_at "go"
  refine⟨t,c,m,rfl,lt.mono (by decide),lc.mono (by decide),hm,lm.mono (by decide),?_⟩
  walk_at "go"
  refine⟨o,d,rfl,lo.mono (by decide),ld.mono (by decide),?_⟩
  walk_at "go"
  refine⟨tless t c m,crs o d,m,rfl,lB.mono (by decide),lod.mono (by decide),hm,lm.mono (by decide),?_⟩
  walk_at "go"
  refine⟨d,s,rfl,ld.mono (by decide),ls.mono (by decide),?_⟩
  walk_at "go"
  refine⟨tless t c m,crs d s,m,rfl,lB.mono (by decide),lds.mono (by decide),hm,lm.mono (by decide),?_⟩
  walk_at "go"
  refine⟨_,m,dotI (crs s o) d,1,congrArg (fun x=>[fr (dotI (tless t c m) (crs o d)) m,x]) (fr_one _),⟨hm,by decide,lS.mono (by decide),lm.mono (by decide),lW.mono (by decide),one9⟩,hW,?_⟩
  rw[Int.mul_one]
  walk_at "go"
  refine⟨_,m,dotI (crs s o) d,1,congrArg (fun x=>[fr (dotI (tless t c m) (crs d s)) m,x]) (fr_one _),⟨hm,by decide,lT.mono (by decide),lm.mono (by decide),lW.mono (by decide),one9⟩,hW,?_⟩
  rw[Int.mul_one]
  walk_at "go"
  exact q
abbrev pl2(s p t q:Int):T:=.tup [fr s p,fr t q]
abbrev spot(a d e s p t q:Int):Int:=a * (p * q) + (s * d * q + t * e * p)
def Z1j:SpT:=fun ts Q=>∃(as ds es:List T) (s p t q k a d e:Int),ts=[.tup [.tup as,.tup ds,.tup es],pl2 s p t q,.int k]/\atI as k=some (.int a)/\atI ds k=some (.int d)/\atI es k=some (.int e)/\Two 100 s p t q/\(Lim 100 a/\Lim 100 d/\Lim 100 e)/\Q (fr (spot a d e s p t q) (p * q))
theorem Z4j:∀ts Q,Z1j ts Q->ts.length=3:=by rintro ts Q ⟨_,_,_,_,_,_,_,_,_,_,_,e,_⟩;subst e;rfl
def Z2m:WS :=
 (sSeq (sSet 3 (wCall Z01 (aCons (w2 rIxTT (wVar 1) (wC (.int 0))) (aCons (wTup (aCons (w2 rIxTT (w2 rIxTT (wVar 0) (wC (.int 1))) (wVar 2)) (aCons (wC (.int 1)) aNil))) aNil))))
  (sSeq (sSet 4 (wCall Z01 (aCons (w2 rIxTT (wVar 1) (wC (.int 1))) (aCons (wTup (aCons (w2 rIxTT (w2 rIxTT (wVar 0) (wC (.int 2))) (wVar 2)) (aCons (wC (.int 1)) aNil))) aNil))))
  (sRet (wCall Z03 (aCons (wTup (aCons (w2 rIxTT (w2 rIxTT (wVar 0) (wC (.int 0))) (wVar 2)) (aCons (wC (.int 1)) aNil))) (aCons (wCall Z03 (aCons (wVar 3) (aCons (wVar 4) aNil))) aNil))))))
theorem spot_eq{a d e s p t q:Int}(hp:p≠0)(hq:q≠0):fr (a * (p * 1 * (q * 1)) + (s * d * (q * 1) + t * e * (p * 1)) * 1) (1 * (p * 1 * (q * 1)))=fr (spot a d e s p t q) (p * q):=by
 simp only[Int.mul_one,Int.one_mul]
theorem Z4H:∀ts Q,Z1j ts Q->Z2m {nx:=fun _=>Q .non,rt:=Q} (startT 5 ts):=by
 rintro _ Q ⟨as,ds,es,s,p,t,q,k,a,d,e,rfl,ea,ed,ee,⟨hp,hq,ls,lp,lt,lq⟩,⟨la,ld,le⟩,h⟩
 have up:∀{i:Int},Lim 100 i->Lim 900 i:=fun h=>h.mono (by decide)
 have l1:Lim 900 (1:Int):=Lim.of (by decide) (by decide)
 have p1:p * 1≠0:=by rw[Int.mul_one];exact hp
 have q1:q * 1≠0:=by rw[Int.mul_one];exact hq
 have lp1:Lim 100 (p * 1):=by rw[Int.mul_one];exact lp
 have lq1:Lim 100 (q * 1):=by rw[Int.mul_one];exact lq
 unfold Z2m
 walk_at "go"
 rw[ed]
 walk_at "go"
 refine⟨s,p,d,1,congrArg (fun x=>[fr s p,x]) (fr_one d),⟨hp,by decide,up ls,up lp,up ld,l1⟩,?_⟩
 walk_at "go"
 rw[ee]
 walk_at "go"
 refine⟨t,q,e,1,congrArg (fun x=>[fr t q,x]) (fr_one e),⟨hq,by decide,up lt,up lq,up le,l1⟩,?_⟩
 walk_at "go"
 rw[ea]
 walk_at "go"
 refine⟨s * d,p * 1,t * e,q * 1,rfl,⟨p1,q1,(ls.mul ld).mono (by decide),up lp1,(lt.mul le).mono (by decide),up lq1⟩,?_⟩
 walk_at "go"
 refine⟨a,1,_,_,congrArg (fun x=>[x,_]) (fr_one a),⟨by decide,Int.mul_ne_zero p1 q1,up la,l1,(((ls.mul ld).mul lq1).add ((lt.mul le).mul lp1)).mono (by decide),(lp1.mul lq1).mono (by decide)⟩,?_⟩
 rw[spot_eq hp hq]
 exact h
def Z1e:SpT:=fun ts Q=>∃(a b c d e f x y z s p t q:Int),ts=[plt a b c d e f x y z,pl2 s p t q]/\Two 100 s p t q/\(Lim3 100 a b c/\Lim3 100 d e f/\Lim3 100 x y z)/\Q (.tup [fr (spot a d x s p t q) (p * q),fr (spot b e y s p t q) (p * q),fr (spot c f z s p t q) (p * q)])
theorem Z4I:∀ts Q,Z1e ts Q->ts.length=2:=by rintro ts Q ⟨_,_,_,_,_,_,_,_,_,_,_,_,_,e,_⟩;subst e;rfl
def Z3c:WS :=
 (sRet (wCB rTupleT (aCons (wComp (iRange1 (aCons (wC (.int 3)) aNil)) (gN 0) tTrue (wCall Z1j (aCons (wVar 1) (aCons (wVar 2) (aCons (wVar 0) aNil)))) 1 [0,1]) aNil)))
theorem Z52:∀ts Q,Z1e ts Q->Z3c {nx:=fun _=>Q .non,rt:=Q} (startT 2 ts):=by
 rintro _ Q ⟨a,b,c,d,e,f,x,y,z,s,p,t,q,rfl,tw,⟨⟨la,lb,lc⟩,⟨ld,le,lf⟩,⟨lx,ly,lz⟩⟩,h⟩
 unfold Z3c
 walk_at "go"
 refine⟨_,_,_,s,p,t,q,0,a,d,x,rfl,atI0 _ _,atI0 _ _,atI0 _ _,tw,⟨la,ld,lx⟩,?_⟩
 walk_at "go"
 refine⟨_,_,_,s,p,t,q,0 + 1,b,e,y,rfl,atI1 _ _ _,atI1 _ _ _,atI1 _ _ _,tw,⟨lb,le,ly⟩,?_⟩
 walk_at "go"
 refine⟨_,_,_,s,p,t,q,0 + 1 + 1,c,f,z,rfl,atI2 _ _ _ _,atI2 _ _ _ _,atI2 _ _ _ _,tw,⟨lc,lf,lz⟩,?_⟩
 walk_at "go"
 exact h
abbrev P2:=Int×Int
def pl(M:Int)(p:P2):T:=.tup [fr p.1 M,fr p.2 M]
abbrev plL(M:Int)(ps:List P2):T:=.lst (ps.map (pl M))
def cr(a b:P2):Int:=a.1 * b.2 - b.1 * a.2
def chain:P2->List P2->Int
 | _,[]=>0
 | a,b::r=>cr a b + chain b r
def area2:List P2->Int
 | []=>0
 | a::r=>chain (r.getLastD a) (a::r)
structure PsOk(M:Int)(ps:List P2):Prop where
 hM:0 < M
 lM:Lim 30 M
 len:ps.length<=900
 lim:∀p∈ps,Lim 30 p.1/\Lim 30 p.2
theorem at_nat{α:Type}{f:α->T}{l:List α}{i:Nat}{x:α}(h:l[i]?=some x):atI (l.map f) (i:Int)=some (f x):=by
 have hi:i < l.length:=(List.getElem?_eq_some_iff.mp h).1
 unfold atI ixN
 rw[List.length_map,if_pos (by omega),if_pos (by omega)]
 simp only[Option.bind,Int.toNat_natCast]
 rw[List.getElem?_map,h]
 rfl
theorem at_last{α:Type}{f:α->T}(a:α)(r:List α):atI ((a::r).map f) (((0:Nat):Int) - 1)=some (f (r.getLastD a)):=by
 unfold atI ixN
 rw[List.length_map,if_neg (by omega),if_pos (by simp;omega)]
 simp only[Option.bind]
 rw[List.getElem?_map,show ((((0:Nat):Int) - 1) + ((a::r).length:Int)).toNat=r.length by simp only[List.length_cons];omega]
 cases r with
 | nil=>rfl
 | cons b r=>simp[List.getLastD,List.getLast?_eq_getElem?,List.getLast_eq_getElem]
theorem at_prev{α:Type}{f:α->T}{l:List α}{i:Nat}{x:α}(h:l[i]?=some x):atI (l.map f) (((i + 1:Nat):Int) - 1)=some (f x):=by
 rw[show (((i + 1:Nat):Int) - 1)=(i:Int) by omega]
 exact at_nat h
theorem drop_cons{α:Type}{l r:List α}{i:Nat}{b:α}(e:l.drop i=b::r):l[i]?=some b/\l.drop (i + 1)=r/\b∈l:=by
 have h1:l[i]?=some b:=by
  have:=congrArg (·[0]?) e
  simpa using this
 refine⟨h1,?_,List.mem_of_getElem? h1⟩
 rw[← List.drop_drop,e]
 rfl
theorem cr_lim{a b:P2}(ha:Lim 30 a.1/\Lim 30 a.2)(hb:Lim 30 b.1/\Lim 30 b.2):Lim 61 (cr a b):=((ha.1.mul hb.2).sub (hb.1.mul ha.2)).mono (by decide)
theorem sum_bd{A c:Int}{i B:Nat}(hA:A.natAbs<=i * B)(hc:c.natAbs < B):(A + c).natAbs<=(i + 1) * B:=by
 rw[Nat.succ_mul]
 omega
theorem bd_lim{A:Int}{i:Nat}(hi:i<=901)(h:A.natAbs<=i * 10 ^ 61):Lim 64 A:=by
 unfold Lim
 have:i * 10 ^ 61<=901 * 10 ^ 61:=Nat.mul_le_mul_right _ hi
 omega
def Z0B:SpT:=fun ts Q=>∃(M:Int) (ps:List P2),ts=[plL M ps]/\PsOk M ps/\Q (fr (area2 ps) (M * M * 2))
theorem Z4J:∀ts Q,Z0B ts Q->ts.length=1:=by rintro ts Q ⟨_,_,e,_⟩;subst e;rfl
def Z0V:WS :=
 (sSeq (sSet 4 (w2 rIxTT (wVar 0) (w2 rSubT (wVar 2) (wC (.int 1)))))
  (sSeq (sSet 5 (wCall Z00 (aCons (wCall Z01 (aCons (w2 rIxTT (wVar 4) (wC (.int 0))) (aCons (w2 rIxTT (wVar 3) (wC (.int 1))) aNil))) (aCons (wCall Z01 (aCons (w2 rIxTT (wVar 3) (wC (.int 0))) (aCons (w2 rIxTT (wVar 4) (wC (.int 1))) aNil))) aNil))))
  (sSet 1 (wCall Z03 (aCons (wVar 1) (aCons (wVar 5) aNil))))))
def Z2I:WS :=
 (sSeq (sSet 1 (wTup (aCons (wC (.int 0)) (aCons (wC (.int 1)) aNil))))
  (sSeq (sFor (iEnum (aCons (wVar 0) aNil)) (gT 2 (gsC (gN 2) (gsC (gN 3) gs0))) Z0V)
  (sRet (wCall Z01 (aCons (wVar 1) (aCons (wTup (aCons (wC (.int 1)) (aCons (wC (.int 2)) aNil))) aNil))))))
theorem share_loop{D:DT}{M:Int}{ps:List P2}(ok:PsOk M ps):∀(r:List P2)(i:Nat)(a:P2)(A:Int)(s2 s3 s4 s5:Slot),ps.drop i=r->(r≠[]->atI (ps.map (pl M)) ((i:Int) - 1)=some (pl M a))->Lim 30 a.1/\Lim 30 a.2->A.natAbs<=i * 10 ^ 61->i + r.length<=901 →
  (Lim 64 (A + chain a r)->∀s2 s3 s4 s5,D.nx [.val (plL M ps),.val (fr (A + chain a r) (M * M)),s2,s3,s4,s5]) →
  forT (gT 2 (gsC (gN 2) (gsC (gN 3) gs0))) Z0V (enumT i (r.map (pl M))) D [.val (plL M ps),.val (fr A (M * M)),s2,s3,s4,s5]
 | [],i,a,A,s2,s3,s4,s5,_,_,_,hA,hi,h=>by
  simp only[List.map,enumT,forT]
  have:=h (by simpa [chain] using bd_lim (by simpa using hi) hA) s2 s3 s4 s5
  simpa [chain] using this
 | b::r,i,a,A,s2,s3,s4,s5,e,ea,la,hA,hi,h=>by
  obtain⟨e1,e2,mb⟩:=drop_cons e
  have lb:=ok.lim b mb
  have lc:=cr_lim la lb
  have hM:M≠0:=by have:=ok.hM;omega
  have hMM:M * M≠0:=Int.mul_ne_zero hM hM
  have lM:=ok.lM
  have lMM:=lM.mul lM
  have lA:Lim 64 A:=bd_lim (by omega) hA
  have ih:=fun (s2 s3 s4 s5:Slot)=>share_loop (D:=D) ok r (i + 1) b (A + cr a b) s2 s3 s4 s5 e2 (fun _=>at_prev e1) lb (sum_bd hA lc) (by simp at hi;omega) (fun l s2 s3 s4 s5=>by
   have:=h (by simpa [chain,Int.add_assoc] using l) s2 s3 s4 s5
   simpa [chain,Int.add_assoc] using this)
  simp only[List.map_cons,enumT,forT]
  generalize forT (gT 2 (gsC (gN 2) (gsC (gN 3) gs0))) Z0V (enumT (i + 1) (r.map (pl M))) D=F at ih ⊢
  unfold Z0V
  walk_at "go"
  rw[ea (by simp)]
  walk_at "go"
  refine⟨a.1,M,b.2,M,rfl,⟨hM,hM,la.1.mono (by decide),lM.mono (by decide),lb.2.mono (by decide),lM.mono (by decide)⟩,?_⟩
  walk_at "go"
  refine⟨b.1,M,a.2,M,rfl,⟨hM,hM,lb.1.mono (by decide),lM.mono (by decide),la.2.mono (by decide),lM.mono (by decide)⟩,?_⟩
  walk_at "go"
  refine⟨a.1 * b.2,M * M,b.1 * a.2,M * M,rfl,⟨hMM,hMM,(la.1.mul lb.2).mono (by decide),lMM.mono (by decide),(lb.1.mul la.2).mono (by decide),lMM.mono (by decide)⟩,?_⟩
  rw[fr_sub1 hMM]
  walk_at "go"
  refine⟨A,M * M,cr a b,M * M,rfl,⟨hMM,hMM,lA.mono (by decide),lMM.mono (by decide),lc.mono (by decide),lMM.mono (by decide)⟩,?_⟩
  rw[fr_sum1 hMM]
  exact ih _ _ _ _
theorem Z53:∀ts Q,Z0B ts Q->Z2I {nx:=fun _=>Q .non,rt:=Q} (startT 6 ts):=by
 rintro _ Q ⟨M,ps,rfl,ok,h⟩
 have hM:M≠0:=by have:=ok.hM;omega
 have hMM:M * M≠0:=Int.mul_ne_zero hM hM
 have lMM:=ok.lM.mul ok.lM
 unfold Z2I
 obtain⟨W0,hW0⟩:∃W,W=Z0V:=⟨_,rfl⟩
 rw[← hW0]
 walk_at "go"
 rw[hW0,show (T.tup [T.int 0,T.int 1])=fr 0 (M * M) from fr_zero hMM]
 have fin:∀(A:Int)(s2 s3 s4 s5:Slot),Lim 64 A->A=area2 ps->sRet (wCall Z01 (aCons (wVar 1) (aCons (wTup (aCons (wC (.int 1)) (aCons (wC (.int 2)) aNil))) aNil))) {nx:=fun _=>Q .non,rt:=Q} [.val (plL M ps),.val (fr A (M * M)),s2,s3,s4,s5]:=fun A s2 s3 s4 s5 lA e=>by
  walk_at "go"
  refine⟨A,M * M,1,2,by rw[show (.tup [.int 1,.int 2]:T)=fr 1 2 from fr_of (by decide) ⟨by decide,by decide,rfl⟩],⟨hMM,by decide,lA.mono (by decide),lMM.mono (by decide),Lim.of (by decide) (by decide),Lim.of (by decide) (by decide)⟩,?_⟩
  rw[Int.mul_one,e]
  exact h
 cases ps with
 | nil =>
  simp only[List.map,enumT,forT]
  exact fin 0 _ _ _ _ (Lim.of (by decide) (by decide)) rfl
 | cons a r =>
  refine share_loop (D:={nx:=fun τ=>sRet (wCall Z01 (aCons (wVar 1) (aCons (wTup (aCons (wC (.int 1)) (aCons (wC (.int 2)) aNil))) aNil))) {nx:=fun _=>Q .non,rt:=Q} τ,rt:=Q}) ok (a::r) 0 (r.getLastD a) 0 _ _ _ _ rfl (fun _=>at_last a r) (ok.lim _ ?_) (by simp) (by have:=ok.len;omega) fun l s2 s3 s4 s5=>?_
  ·cases r with
   | nil=>exact List.mem_cons_self
   | cons b r=>exact List.mem_cons_of_mem _ (by simp[List.getLastD])
  ·exact fin _ _ _ _ _ l (by simp[area2])
structure HpOk(h:Tr):Prop where
 w:0 < h.2.2
 l:LimT 80 h
theorem turn_id(x y z:Tr):(y.1 * x.2.2 - x.1 * y.2.2) * (z.2.1 * x.2.2 - x.2.1 * z.2.2) - (y.2.1 * x.2.2 - x.2.1 * y.2.2) * (z.1 * x.2.2 - x.1 * z.2.2)=x.2.2 * det x y z:=by
 simp only[det]
 grind
def Z05:SpT:=fun ts Q=>∃x y z:Tr,ts=[hpl x,hpl y,hpl z]/\HpOk x/\HpOk y/\HpOk z/\Q (fr (det x y z) (x.2.2 * y.2.2 * z.2.2))
theorem Z54:∀ts Q,Z05 ts Q->ts.length=3:=by rintro ts Q ⟨_,_,_,e,_⟩;subst e;rfl
def Z1k:WE :=
 (wCall Z00 (aCons (w2 rIxTT (wVar 1) (wVar 0)) (aCons (w2 rIxTT (wVar 2) (wVar 0)) aNil)))
def Z1l:WE :=
 (wCall Z00 (aCons (w2 rIxTT (wVar 1) (wVar 0)) (aCons (w2 rIxTT (wVar 2) (wVar 0)) aNil)))
def Z3w:WS :=
 (sSeq (sSet 3 (wComp (iRange1 (aCons (wC (.int 2)) aNil)) (gN 0) tTrue Z1k 1 [1,0]))
  (sSeq (sSet 4 (wComp (iRange1 (aCons (wC (.int 2)) aNil)) (gN 0) tTrue Z1l 1 [2,0]))
  (sRet (wCall Z00 (aCons (wCall Z01 (aCons (w2 rIxTT (wVar 3) (wC (.int 0))) (aCons (w2 rIxTT (wVar 4) (wC (.int 1))) aNil))) (aCons (wCall Z01 (aCons (w2 rIxTT (wVar 3) (wC (.int 1))) (aCons (w2 rIxTT (wVar 4) (wC (.int 0))) aNil))) aNil))))))
theorem Z5n:∀ts Q,Z05 ts Q->Z3w {nx:=fun _=>Q .non,rt:=Q} (startT 5 ts):=by
 rintro _ Q ⟨x,y,z,rfl,hx,hy,hz,h⟩
 have px:=hx.w
 have py:=hy.w
 have pz:=hz.w
 have nx:x.2.2≠0:=by omega
 have ny:y.2.2≠0:=by omega
 have nz:z.2.2≠0:=by omega
 have up:∀{i:Int},Lim 80 i->Lim 900 i:=fun h=>h.mono (by decide)
 have ld:∀{a b c d:Int},Lim 80 a->Lim 80 b->Lim 80 c->Lim 80 d->Lim 161 (a * d - c * b):=fun ha hb hc hd=>((ha.mul hd).sub (hc.mul hb)).mono (by simp)
 have lb:∀{a b:Int},Lim 80 a->Lim 80 b->Lim 160 (a * b):=fun ha hb=>ha.mul hb
 have tw:∀{a b:Int}{u v:Tr},HpOk u->HpOk v->Lim 80 a->Lim 80 b->Two 900 a u.2.2 b v.2.2:=fun hu hv la lb=>⟨by have:=hu.w;omega,by have:=hv.w;omega,up la,up hu.l.2.2,up lb,up hv.l.2.2⟩
 unfold Z3w
 obtain⟨W0,hW0⟩:∃W,W=Z1k:=⟨_,rfl⟩
 obtain⟨W1,hW1⟩:∃W,W=Z1l:=⟨_,rfl⟩
 rw[← hW0,← hW1]
 walk_at "go"
 refine Eq.mpr (congrFun (congrFun hW0 _) _) ?_
 unfold Z1k
 walk_at "go"
 refine⟨y.1,y.2.2,x.1,x.2.2,rfl,tw hy hx hy.l.1 hx.l.1,?_⟩
 walk_at "go"
 refine Eq.mpr (congrFun (congrFun hW0 _) _) ?_
 unfold Z1k
 walk_at "go"
 refine⟨y.2.1,y.2.2,x.2.1,x.2.2,rfl,tw hy hx hy.l.2.1 hx.l.2.1,?_⟩
 walk_at "go"
 refine Eq.mpr (congrFun (congrFun hW1 _) _) ?_
 unfold Z1l
 walk_at "go"
 refine⟨z.1,z.2.2,x.1,x.2.2,rfl,tw hz hx hz.l.1 hx.l.1,?_⟩
 walk_at "go"
 refine Eq.mpr (congrFun (congrFun hW1 _) _) ?_
 unfold Z1l
 walk_at "go"
 refine⟨z.2.1,z.2.2,x.2.1,x.2.2,rfl,tw hz hx hz.l.2.1 hx.l.2.1,?_⟩
 have l0:=ld hy.l.1 hy.l.2.2 hx.l.1 hx.l.2.2
 have l1:=ld hy.l.2.1 hy.l.2.2 hx.l.2.1 hx.l.2.2
 have l2:=ld hz.l.1 hz.l.2.2 hx.l.1 hx.l.2.2
 have l3:=ld hz.l.2.1 hz.l.2.2 hx.l.2.1 hx.l.2.2
 have b0:=lb hy.l.2.2 hx.l.2.2
 have b1:=lb hz.l.2.2 hx.l.2.2
 have m0:y.2.2 * x.2.2≠0:=Int.mul_ne_zero ny nx
 have m1:z.2.2 * x.2.2≠0:=Int.mul_ne_zero nz nx
 have m2:=Int.mul_ne_zero m0 m1
 have lm:=b0.mul b1
 walk_at "go"
 refine⟨_,_,_,_,rfl,⟨m0,m1,l0.mono (by decide),b0.mono (by decide),l3.mono (by decide),b1.mono (by decide)⟩,?_⟩
 walk_at "go"
 refine⟨_,_,_,_,rfl,⟨m0,m1,l1.mono (by decide),b0.mono (by decide),l2.mono (by decide),b1.mono (by decide)⟩,?_⟩
 walk_at "go"
 refine⟨_,_,_,_,rfl,⟨m2,m2,(l0.mul l3).mono (by decide),lm.mono (by decide),(l1.mul l2).mono (by decide),lm.mono (by decide)⟩,?_⟩
 rw[fr_sub1 m2,turn_id]
 have e:fr (x.2.2 * det x y z) (y.2.2 * x.2.2 * (z.2.2 * x.2.2))=fr (det x y z) (x.2.2 * y.2.2 * z.2.2):=by
  refine fr_eq m2 (Int.mul_ne_zero (Int.mul_ne_zero nx ny) nz) ?_
  generalize det x y z=D
  grind
 rw[e]
 exact h
abbrev iQ(p:P2):T:=hpl (p.1,p.2,2520)
abbrev Sm(p:P2):Prop:=(-200000 < p.1/\p.1 < 200000)/\(-200000 < p.2/\p.2 < 200000)
theorem sm_lim{p:P2}(h:Sm p):Lim 6 p.1/\Lim 6 p.2:=⟨Lim.of (by have:=h.1.1;show -1000000 < p.1;omega) (by have:=h.1.2;show p.1 < 1000000;omega),Lim.of (by have:=h.2.1;show -1000000 < p.2;omega) (by have:=h.2.2;show p.2 < 1000000;omega)⟩
theorem l12:Lim 6 (2520:Int):=Lim.of (by decide) (by decide)
theorem hpOk_iQ{p:P2}(h:Sm p):HpOk (p.1,p.2,2520):=⟨(by decide:(0:Int) < 2520),(sm_lim h).1.mono (by decide),(sm_lim h).2.mono (by decide),l12.mono (by decide)⟩
abbrev trn(a b c:P2):Int:=(b.1 - a.1) * (c.2 - a.2) - (b.2 - a.2) * (c.1 - a.1)
theorem det_trn(a b c:P2):det (a.1,a.2,2520) (b.1,b.2,2520) (c.1,c.2,2520)=2520 * trn a b c:=by
 simp only[det,trn]
 grind
abbrev hT(h:Int):T:=fr h 6350400
theorem turn_cal{a b c:P2}{Q:T->Prop}(ha:Sm a)(hb:Sm b)(hc:Sm c)(q:Q (hT (trn a b c))):Z05 [iQ a,iQ b,iQ c] Q:=by
 refine⟨(a.1,a.2,2520),(b.1,b.2,2520),(c.1,c.2,2520),rfl,hpOk_iQ ha,hpOk_iQ hb,hpOk_iQ hc,?_⟩
 rw[det_trn,fr_eq (n':=trn a b c) (m':=6350400) (by show (2520 * 2520 * 2520:Int)≠0;decide) (by decide) (by show 2520 * trn a b c * 6350400=trn a b c * (2520 * 2520 * 2520);omega)]
 exact q
def Z0H:SpT:=fun ts Q=>∃(a b c:P2) (n m:Int),ts=[iQ a,iQ b,fr n m]/\Sm a/\Sm b/\Lim 100 n/\Lim 100 m/\m≠0/\a.1 * m + n * (b.1 - a.1)=c.1 * m/\a.2 * m + n * (b.2 - a.2)=c.2 * m/\Q (iQ c)
theorem Z3x:∀ts Q,Z0H ts Q->ts.length=3:=by rintro ts Q ⟨_,_,_,_,_,e,_⟩;subst e;rfl
def Z0L:WE :=
 (wCall Z03 (aCons (w2 rIxTT (wVar 1) (wVar 0)) (aCons (wCall Z01 (aCons (wVar 2) (aCons (wCall Z00 (aCons (w2 rIxTT (wVar 3) (wVar 0)) (aCons (w2 rIxTT (wVar 1) (wVar 0)) aNil))) aNil))) aNil)))
def Z20:WS :=
 (sRet (wCB rTupleT (aCons (wComp (iRange1 (aCons (wC (.int 2)) aNil)) (gN 0) tTrue Z0L 1 [0,2,1]) aNil)))
theorem Z3D:∀ts Q,Z0H ts Q->Z20 {nx:=fun _=>Q .non,rt:=Q} (startT 3 ts):=by
 rintro _ Q ⟨a,b,c,n,m,rfl,ha,hb,ln,lm,hm,e1,e2,q⟩
 unfold Z20
 obtain⟨W0,hW0⟩:∃W,W=Z0L:=⟨_,rfl⟩
 rw[← hW0]
 have c0:∀{xs ys:List T}{k x y z:Int}{Q:T->Prop},atI xs k=some (fr x 2520)->atI ys k=some (fr y 2520)->Lim 6 x->Lim 6 y->x * m + n * (y - x)=z * m->Q (fr z 2520)->W0 [.val (.int k),.val (.tup xs),.val (fr n m),.val (.tup ys)] Q:=fun {xs ys k x y z Q} ex ey lx ly e hQ=>by
  rw[hW0]
  unfold Z0L
  walk_at "go"
  rw[ex]
  walk_at "go"
  rw[ey]
  walk_at "go"
  try rw[ex]
  try walk_at "go"
  have l900:∀{i:Int},Lim 100 i->Lim 900 i:=fun l=>l.mono (by decide)
  refine⟨y,2520,x,2520,rfl,⟨by decide,by decide,ly.mono (by decide),l12.mono (by decide),lx.mono (by decide),l12.mono (by decide)⟩,?_⟩
  rw[fr_sub1 (by decide)]
  walk_at "go"
  have ld:Lim 7 (y - x):=(ly.sub lx).mono (by decide)
  refine⟨n,m,y - x,2520,rfl,⟨hm,by decide,l900 ln,l900 lm,ld.mono (by decide),l12.mono (by decide)⟩,?_⟩
  walk_at "go"
  have m12:m * 2520≠0:=Int.mul_ne_zero hm (by decide)
  refine⟨x,2520,n * (y - x),m * 2520,rfl,⟨by decide,m12,lx.mono (by decide),l12.mono (by decide),(ln.mul ld).mono (by decide),(lm.mul l12).mono (by decide)⟩,?_⟩
  rw[fr_eq (n':=z) (m':=2520) (Int.mul_ne_zero (by decide) m12) (by decide) (by
   have e':(x * m + n * (y - x)) * 6350400=z * m * 6350400:=by rw[e]
   grind)]
  exact hQ
 walk_at "go"
 refine c0 (x:=a.1) (y:=b.1) (z:=c.1) (atI0 _ _) (atI0 _ _) (sm_lim ha).1 (sm_lim hb).1 e1 ?_
 walk_at "go"
 refine c0 (x:=a.2) (y:=b.2) (z:=c.2) (atI1 _ _ _) (atI1 _ _ _) (sm_lim ha).2 (sm_lim hb).2 e2 ?_
 walk_at "go"
 exact q
theorem neg_sc{k y:Int}(hk:0 < k):k * y < 0 ↔ y < 0:=by
 constructor
 ·intro h
  rcases Int.lt_trichotomy y 0 with z|z|z
  ·exact z
  ·rw[z,Int.mul_zero]at h;omega
  ·have:=Int.mul_pos hk z;omega
 ·exact fun h=>Int.mul_neg_of_pos_of_neg hk h
theorem frN_sg{n m x:Int}(hm:0 < m):frN n m * x < 0 ↔ n * x < 0:=by
 have e:=(fr_rt (n:=n) (m:=m) (by omega)).eq
 have p:=frD_pos (n:=n) (m:=m) (by omega)
 generalize frN n m=a at *
 generalize frD n m=b at *
 have e2:m * (a * x)=b * (n * x):=by grind
 rw[← neg_sc hm,e2,neg_sc p]
theorem frN_nn{n m:Int}(hm:0 < m):0<=frN n m ↔ 0<=n:=by
 have:=frN_sg (n:=n) (x:=1) hm
 rw[Int.mul_one,Int.mul_one]at this
 omega
theorem frN_two{a b m:Int}(hm:0 < m):frN b m * frN a m < 0 ↔ a * b < 0:=by
 rw[frN_sg hm,Int.mul_comm,frN_sg hm]
def cutL(f:P2->Int)(cr:P2->P2->P2):P2->List P2->List P2
 | _,[]=>[]
 | a,b::r=>(if f a * f b < 0 then [cr a b] else [])++((if 0<=f b then [b] else [])++cutL f cr b r)
def CxOk(f:P2->Int)(cr:P2->P2->P2):P2->List P2->Prop
 | _,[]=>True
 | a,b::r=>(f a * f b < 0->a.1 * (f a - f b) + f a * (b.1 - a.1)=(cr a b).1 * (f a - f b)/\a.2 * (f a - f b) + f a * (b.2 - a.2)=(cr a b).2 * (f a - f b))/\CxOk f cr b r
def cutW(f:P2->Int)(cr:P2->P2->P2):List P2->List P2
 | []=>[]
 | a::r=>cutL f cr (r.getLastD a) (a::r)
def CxW(f:P2->Int)(cr:P2->P2->P2):List P2->Prop
 | []=>True
 | a::r=>CxOk f cr (r.getLastD a) (a::r)
def Z0q:SpT:=fun ts Q=>∃(ps:List P2) (f:P2->Int) (cr:P2->P2->P2),ts=[.lst (ps.map iQ),.lst ((ps.map f).map hT)]/\ps.length<=100/\(∀p∈ps,Sm p/\Lim 60 (f p))/\CxW f cr ps/\Q (.lst ((cutW f cr ps).map iQ))
theorem Z3y:∀ts Q,Z0q ts Q->ts.length=2:=by rintro ts Q ⟨_,_,_,e,_⟩;subst e;rfl
def Z0b:WS :=
 (sIf (tCmpT cGeT (w2 rIxTT (wVar 5) (wC (.int 0))) (wC (.int 0))) (sApp 2 (wVar 4)) sNext)
def Z04:WS :=
 (sSeq (sSet 5 (w2 rIxTT (wVar 1) (wVar 3)))
  (sSeq (sSet 6 (w2 rIxTT (wVar 1) (w2 rSubT (wVar 3) (wC (.int 1)))))
  (sSeq (sIf (tCmpT cLtT (w2 rMulT (w2 rIxTT (wVar 5) (wC (.int 0))) (w2 rIxTT (wVar 6) (wC (.int 0)))) (wC (.int 0))) (sSeq (sSet 7 (wCall Z0N (aCons (wVar 6) (aCons (wCall Z00 (aCons (wVar 6) (aCons (wVar 5) aNil))) aNil))))
  (sApp 2 (wCall Z0H (aCons (w2 rIxTT (wVar 0) (w2 rSubT (wVar 3) (wC (.int 1)))) (aCons (wVar 4) (aCons (wVar 7) aNil)))))) sNext)
  Z0b)))
def Z21:WS :=
 (sSeq (sOwn 2 aNil)
  (sSeq (sFor (iEnum (aCons (wVar 0) aNil)) (gT 2 (gsC (gN 3) (gsC (gN 4) gs0))) Z04)
  (sFrz 2 (sRet (wVar 2)))))
theorem cut_b0{D:DT}{ps acc:List P2}{hs:List T}{f:P2->Int}{cr:P2->P2->P2}{a b:P2}{i:Int}{s5 s6 s7:Slot}(ea:atI (ps.map iQ) (i - 1)=some (iQ a))(eh:atI hs i=some (hT (f b)))(eg:atI hs (i - 1)=some (hT (f a)))(ha:Sm a/\Lim 60 (f a))(hb:Sm b/\Lim 60 (f b))(la:acc.length < 900)
  (cx:f a * f b < 0->a.1 * (f a - f b) + f a * (b.1 - a.1)=(cr a b).1 * (f a - f b)/\a.2 * (f a - f b) + f a * (b.2 - a.2)=(cr a b).2 * (f a - f b))
  (h:∀s5 s6 s7,D.nx [.val (.lst (ps.map iQ)),.val (.lst hs),.own ((acc++((if f a * f b < 0 then [cr a b] else [])++(if 0<=f b then [b] else []))).map iQ),.val (.int i),.val (iQ b),s5,s6,s7]) :
  Z04 D [.val (.lst (ps.map iQ)),.val (.lst hs),.own (acc.map iQ),.val (.int i),.val (iQ b),s5,s6,s7]:=by
 have mo:MulOk (frN (f b) 6350400) (frN (f a) 6350400):=mulOk (frN_lim (by decide) hb.2) (frN_lim (by decide) ha.2)
 have k0:∀(acc':List P2)(s7:Slot),acc'.length < 950->acc++(if f a * f b < 0 then [cr a b] else [])=acc'->Z0b D [.val (.lst (ps.map iQ)),.val (.lst hs),.own (acc'.map iQ),.val (.int i),.val (iQ b),.val (hT (f b)),.val (hT (f a)),s7]:=fun acc' s7 hl e=>by
  rw[← List.append_assoc,e]at h
  have hL:(acc'.map iQ).length < 1000:=by rw[List.length_map];omega
  unfold Z0b
  walk_at "tw"
  by_cases hy:0<=f b
  ·rw[if_pos hy]at h
   have e3:decide (0<=frN (f b) 6350400)=true:=decide_eq_true ((frN_nn (by decide)).mpr hy)
   refine⟨fun _=>⟨hL,?_⟩,fun z=>Bool.noConfusion (e3.symm.trans z)⟩
   have:=h (.val (hT (f b))) (.val (hT (f a))) s7
   rw[List.map_append]at this
   exact this
  ·rw[if_neg hy,List.append_nil]at h
   have e3:decide (0<=frN (f b) 6350400)=false:=decide_eq_false (fun z=>hy ((frN_nn (by decide)).mp z))
   refine⟨fun z=>Bool.noConfusion (z.symm.trans e3),fun _=>h _ _ _⟩
 have hL:(acc.map iQ).length < 1000:=by rw[List.length_map];omega
 unfold Z04
 obtain⟨K0,hK0⟩:∃W,W=Z0b:=⟨_,rfl⟩
 rw[← hK0]at k0 ⊢
 walk_at "go"
 rw[eh]
 walk_at "go"
 rw[eg]
 walk_at "go"
 by_cases hz:f a * f b < 0
 ·have e3:decide (frN (f b) 6350400 * frN (f a) 6350400 < 0)=true:=decide_eq_true ((frN_two (by decide)).mpr hz)
  obtain⟨c1,c2⟩:=cx hz
  refine⟨fun _=>?_,fun z=>Bool.noConfusion (e3.symm.trans z)⟩
  have nz:f a - f b≠0:=fun z=>by
   have:f a=f b:=by omega
   rw[this]at hz
   have:=Int.mul_nonneg_of_nonpos_of_nonpos (a:=f b) (b:=f b)
   have:=Int.mul_nonneg (a:=f b) (b:=f b)
   omega
  have l144:Lim 7 (6350400:Int):=Lim.of (by decide) (by decide)
  have ld:Lim 61 (f a - f b):=(ha.2.sub hb.2).mono (by decide)
  walk_at "go"
  refine⟨f a,6350400,f b,6350400,rfl,⟨by decide,by decide,ha.2.mono (by decide),l144.mono (by decide),hb.2.mono (by decide),l144.mono (by decide)⟩,?_⟩
  rw[fr_sub1 (by decide)]
  walk_at "go"
  refine⟨f a,6350400,f a - f b,6350400,rfl,⟨by decide,by decide,ha.2.mono (by decide),l144.mono (by decide),ld.mono (by decide),l144.mono (by decide)⟩,nz,?_⟩
  rw[fr_eq (n':=f a) (m':=f a - f b) (Int.mul_ne_zero (by decide) nz) nz (by rw[Int.mul_assoc])]
  walk_at "go"
  rw[ea]
  walk_at "go"
  refine⟨a,b,cr a b,f a,f a - f b,rfl,ha.1,hb.1,ha.2.mono (by decide),ld.mono (by decide),nz,c1,c2,?_⟩
  walk_at "go"
  have:=k0 (acc++[cr a b]) (.val (fr (f a) (f a - f b))) (by simp;omega) (by rw[if_pos hz])
  rw[List.map_append]at this
  exact this
 ·have e3:decide (frN (f b) 6350400 * frN (f a) 6350400 < 0)=false:=decide_eq_false (fun z=>hz ((frN_two (by decide)).mp z))
  refine⟨fun z=>Bool.noConfusion (z.symm.trans e3),fun _=>?_⟩
  exact k0 acc _ (by omega) (by rw[if_neg hz,List.append_nil])
theorem cut_loop{D:DT}{ps:List P2}{f:P2->Int}{cr:P2->P2->P2}(hm:ps.length<=100)(lim:∀p∈ps,Sm p/\Lim 60 (f p)):∀(r:List P2)(i:Nat)(a:P2)(acc:List P2)(s3 s4 s5 s6 s7:Slot),ps.drop i=r->(r≠[]->atI (ps.map iQ) ((i:Int) - 1)=some (iQ a)/\atI ((ps.map f).map hT) ((i:Int) - 1)=some (hT (f a)))->(Sm a/\Lim 60 (f a))->CxOk f cr a r->acc.length<=2 * i →
  (∀s3 s4 s5 s6 s7,D.nx [.val (.lst (ps.map iQ)),.val (.lst ((ps.map f).map hT)),.own ((acc++cutL f cr a r).map iQ),s3,s4,s5,s6,s7]) →
  forT (gT 2 (gsC (gN 3) (gsC (gN 4) gs0))) Z04 (enumT i (r.map iQ)) D [.val (.lst (ps.map iQ)),.val (.lst ((ps.map f).map hT)),.own (acc.map iQ),s3,s4,s5,s6,s7]
 | [],i,a,acc,s3,s4,s5,s6,s7,_,_,_,_,_,h=>by
  simp only[cutL,List.append_nil]at h
  simp only[List.map,enumT,forT]
  exact h _ _ _ _ _
 | b::r,i,a,acc,s3,s4,s5,s6,s7,e,ea,la,cx,hl,h=>by
  obtain⟨e1,e2,mb⟩:=drop_cons e
  have hi:i < ps.length:=(List.getElem?_eq_some_iff.mp e1).1
  obtain⟨a1,a2⟩:=ea (by simp)
  have e3:(ps.map f)[i]?=some (f b):=by rw[List.getElem?_map,e1];rfl
  have ih:=fun (s3 s4 s5 s6 s7:Slot)=>cut_loop (D:=D) (cr:=cr) hm lim r (i + 1) b (acc++((if f a * f b < 0 then [cr a b] else [])++(if 0<=f b then [b] else []))) s3 s4 s5 s6 s7 e2 (fun _=>⟨at_prev e1,at_prev e3⟩) (lim b mb) cx.2
   (by split<;>split<;>simp<;>omega) (by simpa [cutL,List.append_assoc] using h)
  simp only[List.map_cons,enumT,forT]
  generalize forT (gT 2 (gsC (gN 3) (gsC (gN 4) gs0))) Z04 (enumT (i + 1) (r.map iQ)) D=F at ih ⊢
  simp only[gT,gsC,gs0,gN,sput,List.length_cons,List.length_nil,true_and]
  exact cut_b0 (D:={D with nx:=F,ct:=F,bk:=D.nx}) a1 (at_nat e3) a2 la (lim b mb) (by omega) cx.1 fun s5 s6 s7=>ih _ _ _ _ _
theorem Z3E:∀ts Q,Z0q ts Q->Z21 {nx:=fun _=>Q .non,rt:=Q} (startT 8 ts):=by
 rintro _ Q ⟨ps,f,cr,rfl,hm,lim,cx,q⟩
 unfold Z21
 obtain⟨W0,hW0⟩:∃W,W=Z04:=⟨_,rfl⟩
 rw[← hW0]
 walk_at "tw"
 rw[hW0]
 cases ps with
 | nil =>
  simp only[List.map,enumT,forT]
  exact q
 | cons a r =>
  refine cut_loop hm lim (a::r) 0 (r.getLastD a) [] _ _ _ _ _ rfl (fun _=>⟨at_last a r,?_⟩) (lim _ ?_) cx (by simp) fun s3 s4 s5 s6 s7=>?_
  ·have:=at_last (f:=fun p=>hT (f p)) a r
   rw[List.map_map]
   exact this
  ·cases r with
   | nil=>exact List.mem_cons_self
   | cons b r=>exact List.mem_cons_of_mem _ (by simp[List.getLastD])
  ·rw[List.nil_append]
   walk_at "go"
   exact q
def lowP(p q:P2):Prop:=p.1 < q.1∨(p.1=q.1/\p.2 < q.2)
instance (p q:P2):Decidable (lowP p q):=by unfold lowP;infer_instance
def Z0v:SpT:=fun ts Q=>∃p q:P2,ts=[iQ p,iQ q]/\Sm p/\Sm q/\Q (.bl (decide (lowP p q)))
theorem Z3s:∀ts Q,Z0v ts Q->ts.length=2:=by rintro ts Q ⟨_,_,e,_⟩;subst e;rfl
def Z1v:WS :=
 (sSeq (sIf (tCmpT cNeT (w2 rIxTT (wVar 0) (wC (.int 0))) (w2 rIxTT (wVar 1) (wC (.int 0)))) (sRet (wCall Z0O (aCons (w2 rIxTT (wVar 0) (wC (.int 0))) (aCons (w2 rIxTT (wVar 1) (wC (.int 0))) aNil)))) sNext)
  (sRet (wCall Z0O (aCons (w2 rIxTT (wVar 0) (wC (.int 1))) (aCons (w2 rIxTT (wVar 1) (wC (.int 1))) aNil)))))
theorem und_cal{x y:Int}{Q:T->Prop}(hx:Lim 6 x)(hy:Lim 6 y)(q:Q (.bl (decide (x < y)))):Z0O [fr x 2520,fr y 2520] Q:=by
 refine⟨x,2520,y,2520,rfl,by decide,by decide,⟨by decide,by decide,hx.mono (by decide),l12.mono (by decide),hy.mono (by decide),l12.mono (by decide)⟩,?_⟩
 rw[show decide (x * 2520 < y * 2520)=decide (x < y) from decide_eq_decide.mpr (by omega)]
 exact q
theorem Z3z:∀ts Q,Z0v ts Q->Z1v {nx:=fun _=>Q .non,rt:=Q} (startT 2 ts):=by
 rintro _ Q ⟨p,q,rfl,hp,hq,h⟩
 have lp:=sm_lim hp
 have lq:=sm_lim hq
 obtain⟨S,hS⟩:∃S,S=Z0O:=⟨_,rfl⟩
 have cu:∀{x y:Int}{Q:T->Prop},Lim 6 x->Lim 6 y->Q (.bl (decide (x < y)))->S [fr x 2520,fr y 2520] Q:=fun a b c=>by rw[hS];exact und_cal a b c
 unfold Z1v
 rw[← hS]
 walk_at "tw"
 refine⟨eqOk_fr _ _ _ _,?_⟩
 rw[eqT_fr (by decide) (by decide)]
 by_cases e:p.1=q.1
 ·rw[show (!decide (p.1 * 2520=q.1 * 2520))=false by rw[decide_eq_true (by omega)];rfl]
  refine⟨(fun z=>by cases z),fun _=>cu lp.2 lq.2 ?_⟩
  rw[show decide (lowP p q)=decide (p.2 < q.2) from decide_eq_decide.mpr (by unfold lowP;omega)]at h
  exact h
 ·rw[show (!decide (p.1 * 2520=q.1 * 2520))=true by rw[decide_eq_false (by omega)];rfl]
  refine⟨fun _=>cu lp.1 lq.1 ?_,(fun z=>by cases z)⟩
  rw[show decide (lowP p q)=decide (p.1 < q.1) from decide_eq_decide.mpr (by unfold lowP;omega)]at h
  exact h
def IsLow(ps:List P2)(k:Nat):Prop:=∃p,ps[k]?=some p/\∀(j:Nat)(q:P2),ps[j]?=some q->(j < k->lowP p q)/\(k<=j->¬ lowP q p)
theorem IsLow.uniq{ps:List P2}{k m:Nat}(A:IsLow ps k)(B:IsLow ps m):k=m:=by
 obtain⟨p,e1,h1⟩:=A
 obtain⟨q,e2,h2⟩:=B
 rcases Nat.lt_trichotomy k m with z|z|z
 ·exact absurd ((h2 k p e1).1 z) ((h1 m q e2).2 (by omega))
 ·exact z
 ·exact absurd ((h1 m q e2).1 z) ((h2 k p e1).2 (by omega))
def Z0l:SpT:=fun ts Q=>(ts=[.lst []]/\Q (.lst []))∨∃(ps:List P2) (k:Nat),ts=[.lst (ps.map iQ)]/\ps.length<=900/\(∀p∈ps,Sm p)/\IsLow ps k/\Q (.lst ((ps.drop k++ps.take k).map iQ))
theorem Z3F:∀ts Q,Z0l ts Q->ts.length=1:=fun ts Q h=>by rcases h with ⟨rfl,_⟩|⟨_,_,rfl,_⟩<;>rfl
def Z0d:WS :=
 (sIf (tVal (wCall Z0v (aCons (wVar 3) (aCons (w2 rIxTT (wVar 0) (wVar 1)) aNil)))) (sSet 1 (wVar 2)) sNext)
def Z1O:WS :=
 (sSeq (sSet 1 (wC (.int 0)))
  (sSeq (sFor (iEnum (aCons (wVar 0) aNil)) (gT 2 (gsC (gN 2) (gsC (gN 3) gs0))) Z0d)
  (sRet (w2 rCatLT (wSl (wVar 0) (wo (wVar 1)) wo0) (wSl (wVar 0) wo0 (wo (wVar 1)))))))
theorem begun_b0{D:DT}{us:List T}{p q:P2}{k n:Int}(e:atI us k=some (iQ q))(hp:Sm p)(hq:Sm q)(h1:lowP p q->D.nx [.val (.lst us),.val (.int n),.val (.int n),.val (iQ p)])(h2:¬ lowP p q->D.nx [.val (.lst us),.val (.int k),.val (.int n),.val (iQ p)]) :
  Z0d D [.val (.lst us),.val (.int k),.val (.int n),.val (iQ p)]:=by
 unfold Z0d
 walk_at "go"
 rw[e]
 walk_at "go"
 refine⟨p,q,rfl,hp,hq,?_⟩
 by_cases z:lowP p q
 ·rw[decide_eq_true z]
  refine⟨fun _=>h1 z,fun y=>by cases y⟩
 ·rw[decide_eq_false z]
  refine⟨(fun y=>by cases y),fun _=>h2 z⟩
def LowTo(ps:List P2)(i k:Nat):Prop:=∃p,ps[k]?=some p/\∀(j:Nat)(q:P2),j < i->ps[j]?=some q->(j < k->lowP p q)/\(k<=j->¬ lowP q p)
theorem LowTo.step{ps:List P2}{i k:Nat}{p:P2}(L:LowTo ps i k)(hk:k < i)(e:ps[i]?=some p):(∀q,ps[k]?=some q->lowP p q->LowTo ps (i + 1) i)/\(∀q,ps[k]?=some q->¬ lowP p q->LowTo ps (i + 1) k):=by
 obtain⟨m,em,h⟩:=L
 refine⟨fun q eq lo=>⟨p,e,fun j r hj er=>⟨fun hji=>?_,fun hij=>?_⟩⟩,fun q eq nl=>⟨m,em,fun j r hj er=>?_⟩⟩
 ·rw[em]at eq
  cases eq
  have:=h j r hji er
  unfold lowP at *
  by_cases hjk:j < k
  ·have:=this.1 hjk
   omega
  ·have:=this.2 (by omega)
   omega
 ·have:j=i:=by omega
  subst this
  rw[e]at er
  cases er
  unfold lowP
  omega
 ·rw[em]at eq
  cases eq
  by_cases hji:j < i
  ·exact h j r hji er
  ·have:j=i:=by omega
   subst this
   rw[e]at er
   cases er
   exact⟨fun z=>absurd z (by omega),fun _=>nl⟩
theorem begun_loop{D:DT}{ps:List P2}(sm:∀p∈ps,Sm p)(q:∀k s2 s3,LowTo ps ps.length k->D.nx [.val (.lst (ps.map iQ)),.val (.int (k:Nat)),s2,s3]):∀(r:List P2)(i k:Nat)(s2 s3:Slot),ps.drop i=r->LowTo ps i k->(k < i∨(i=0/\k=0)) →
  forT (gT 2 (gsC (gN 2) (gsC (gN 3) gs0))) Z0d (enumT i (r.map iQ)) D [.val (.lst (ps.map iQ)),.val (.int (k:Nat)),s2,s3]
 | [],i,k,s2,s3,e,L,hk=>by
  have hl:ps.length<=i:=List.drop_eq_nil_iff.mp e
  simp only[List.map,enumT,forT]
  refine q k s2 s3 ?_
  obtain⟨p,e1,h⟩:=L
  exact⟨p,e1,fun j r hj er=>h j r (by omega) er⟩
 | b::r,i,k,s2,s3,e,L,hk=>by
  obtain⟨e1,e2,mb⟩:=drop_cons e
  obtain⟨m,em,hL⟩:=id L
  have ih1:=fun s2 s3 L'=>begun_loop (D:=D) sm q r (i + 1) i s2 s3 e2 L' (.inl (by omega))
  have ih2:=fun s2 s3 L'=>begun_loop (D:=D) sm q r (i + 1) k s2 s3 e2 L' (.inl (by omega))
  simp only[List.map_cons,enumT,forT]
  generalize forT (gT 2 (gsC (gN 2) (gsC (gN 3) gs0))) Z0d (enumT (i + 1) (r.map iQ)) D=F at ih1 ih2 ⊢
  simp only[gT,gsC,gs0,gN,sput,List.length_cons,List.length_nil,true_and]
  refine begun_b0 (D:={D with nx:=F,ct:=F,bk:=D.nx}) (q:=m) (at_nat em) (sm b mb) (sm m (List.mem_of_getElem? em)) (fun lo=>?_) (fun nl=>?_)
  ·rcases hk with hk|⟨hi,hk⟩
   ·exact ih1 _ _ ((L.step hk e1).1 m em lo)
   ·subst hi hk
    rw[e1]at em
    cases em
    unfold lowP at lo
    omega
  ·rcases hk with hk|⟨hi,hk⟩
   ·exact ih2 _ _ ((L.step hk e1).2 m em nl)
   ·subst hi hk
    refine ih2 _ _ ⟨m,em,fun j r hj er=>⟨fun z=>absurd z (by omega),fun _=>?_⟩⟩
    have:j=0:=by omega
    subst this
    rw[em]at er
    cases er
    unfold lowP
    omega
theorem Z3V:∀ts Q,Z0l ts Q->Z1O {nx:=fun _=>Q .non,rt:=Q} (startT 4 ts):=by
 rintro _ Q h
 unfold Z1O
 obtain⟨W0,hW0⟩:∃W,W=Z0d:=⟨_,rfl⟩
 rw[← hW0]
 rcases h with ⟨rfl,q⟩|⟨ps,k,rfl,hlen,sm,L,q⟩
 ·walk_at "go"
  exact q
 ·walk_at "tw"
  rw[hW0]
  cases ps with
  | nil=>obtain⟨p,e,_⟩:=L;simp at e
  | cons a r =>
   refine begun_loop sm (fun k' s2 s3 L'=>?_) (a::r) 0 0 _ _ rfl ⟨a,rfl,fun j q hj=>absurd hj (by omega)⟩ (.inr ⟨rfl,rfl⟩)
   have e:k'=k:=by
    refine IsLow.uniq ?_ L
    obtain⟨p,e1,h⟩:=L'
    exact⟨p,e1,fun j q eq=>h j q (List.getElem?_eq_some_iff.mp eq).1 eq⟩
   subst e
   have hk:k'<=(a::r).length:=by
    obtain⟨p,e1,_⟩:=L
    exact Nat.le_of_lt (List.getElem?_eq_some_iff.mp e1).1
   have c1:cutT ((a::r).map iQ) (some (k':Int)) none=((a::r).drop k').map iQ:=by
    unfold cutT
    rw[HT.sIx_none,HT.sIx_nat,List.length_map,← List.map_drop,Nat.min_eq_left hk]
    rw[List.take_of_length_le (by simp)]
   have c2:cutT ((a::r).map iQ) none (some (k':Int))=((a::r).take k').map iQ:=by
    unfold cutT
    rw[HT.sIx_none,HT.sIx_nat,List.length_map,List.drop_zero,Nat.sub_zero,← List.map_take,Nat.min_eq_left hk]
   generalize (a::r)=ps at *
   rw[List.map_append]at q
   walk_at "tw"
   rw[c1,c2]
   exact⟨by simp only[List.length_map,List.length_drop,List.length_take];omega,q⟩
theorem eqOk_iQ(p q:P2):EqOk (iQ p) (iQ q):=by
 refine⟨by simp[plain,fr,pd,pds,PyData.canLay0,PyData.canLayAll0],by simp[plain,fr,pd,pds,PyData.canLay0,PyData.canLayAll0],by simp[dep,fr,pd,pds,PyData.depth,PyData.depthAll]⟩
theorem eqT_iQ(p q:P2):eqT (iQ p) (iQ q)=decide (p=q):=by
 show (eqT (fr p.1 2520) (fr q.1 2520)&&(eqT (fr p.2 2520) (fr q.2 2520)&&true))=_
 rw[eqT_fr (by decide) (by decide),eqT_fr (by decide) (by decide)]
 obtain⟨a,b⟩:=p
 obtain⟨c,d⟩:=q
 simp only[Bool.and_true,Prod.mk.injEq,← Bool.decide_and]
 exact decide_eq_decide.mpr (by omega)
abbrev box0(x0 x1 y0 y1:Int):List P2:=[(x0,y0),(x1,y0),(x1,y1),(x0,y1)]
abbrev box1(x0 x1 y0 y1:Int):List P2:=[(x1,y0),(x1,y1),(x0,y1),(x0,y0)]
abbrev box2(x0 x1 y0 y1:Int):List P2:=[(x1,y1),(x0,y1),(x0,y0),(x1,y0)]
abbrev box3(x0 x1 y0 y1:Int):List P2:=[(x0,y1),(x0,y0),(x1,y0),(x1,y1)]
structure BxOk(x0 x1 y0 y1:Int):Prop where
 x:x0 < x1
 y:y0 < y1
 a:-200000 < x0
 b:x1 < 200000
 c:-200000 < y0
 d:y1 < 200000
def Z0G:SpT:=fun ts Q=>(∃ps:List P2,ts=[.lst (ps.map iQ)]/\ps.length<=300/\(∀p∈ps,Sm p)/\(∀a∈ps,∀b∈ps,∀c∈ps,trn a b c=0)/\Q (.lst [])) ∨
 ∃x0 x1 y0 y1:Int,(∃l,ts=[.lst (l.map iQ)]/\(l=box0 x0 x1 y0 y1∨l=box1 x0 x1 y0 y1∨l=box2 x0 x1 y0 y1∨l=box3 x0 x1 y0 y1))/\BxOk x0 x1 y0 y1/\Q (.lst ((box0 x0 x1 y0 y1).map iQ))
theorem Z48:∀ts Q,Z0G ts Q->ts.length=1:=fun ts Q h=>by rcases h with ⟨_,rfl,_⟩|⟨_,_,_,_,⟨_,rfl,_⟩,_⟩<;>rfl
def Z06:WS :=
 (sSeq (sSet 5 (w2 rIxTT (wVar 1) (w2 rModT (w2 rAddT (wVar 3) (wC (.int 1))) (wCB rLenT (aCons (wVar 1) aNil)))))
  (sIf (tCmpT cGtT (w2 rIxTT (wCall Z05 (aCons (w2 rIxTT (wVar 1) (w2 rSubT (wVar 3) (wC (.int 1)))) (aCons (wVar 4) (aCons (wVar 5) aNil)))) (wC (.int 0))) (wC (.int 0))) (sApp 2 (wVar 4)) sNext))
def Z1M:WS :=
 (sSeq (sSet 1 (wComp (iEnum (aCons (wVar 0) aNil)) (gT 2 (gsC (gN 0) (gsC (gN 1) gs0))) (tCmpT cNeT (wVar 1) (w2 rIxTT (wVar 2) (w2 rSubT (wVar 0) (wC (.int 1))))) (wVar 1) 2 [0]))
  (sSeq (sOwn 2 aNil)
  (sSeq (sFor (iEnum (aCons (wVar 1) aNil)) (gT 2 (gsC (gN 3) (gsC (gN 4) gs0))) Z06)
  (sFrz 2 (sRet (wCall Z0l (aCons (wVar 2) aNil)))))))
theorem at_back{α:Type}{f:α->T}{l:List α}{i:Nat}(h:i < l.length):∃x,x∈l/\atI (l.map f) ((i:Int) - 1)=some (f x):=by
 cases i with
 | zero =>
  cases l with
  | nil=>simp at h
  | cons a r =>
   refine⟨r.getLastD a,?_,at_last a r⟩
   cases r with
   | nil=>simp[List.getLastD]
   | cons b r =>
    have:(b::r).getLastD a=(b::r).getLast (by simp):=by simp[List.getLastD]
    rw[this]
    exact List.mem_cons_of_mem _ (List.getLast_mem _)
 | succ i =>
  have hi:i < l.length:=by omega
  exact⟨l[i],List.getElem_mem hi,at_prev (List.getElem?_eq_getElem hi)⟩
theorem unlike_comp{ps:List P2}:∀(r:List P2)(i:Nat)(acc:List P2)(x0 x1:Slot)(Q:List T->Prop),ps.drop i=r->(∀p∈acc,p∈ps)->acc.length<=i->(∀us:List P2,(∀p∈us,p∈ps)->us.length<=ps.length->Q (us.map iQ))->i<=ps.length →
  compT (gT 2 (gsC (gN 0) (gsC (gN 1) gs0))) (tCmpT cNeT (wVar 1) (w2 rIxTT (wVar 2) (w2 rSubT (wVar 0) (wC (.int 1))))) (wVar 1) (enumT i (r.map iQ)) (acc.map iQ) [x0,x1,.val (.lst (ps.map iQ))] Q
 | [],i,acc,x0,x1,Q,_,ha,hl,h,hi=>by
  simp only[List.map,enumT,compT]
  exact h acc ha (by omega)
 | b::r,i,acc,x0,x1,Q,e,ha,hl,h,hi=>by
  obtain⟨e1,e2,mb⟩:=drop_cons e
  have hi:i < ps.length:=(List.getElem?_eq_some_iff.mp e1).1
  obtain⟨a,ma,ea⟩:=at_back (f:=iQ) hi
  have i1:=fun x0 x1=>unlike_comp r (i + 1) (acc++[b]) x0 x1 Q e2 (fun p hp=>by
   rcases List.mem_append.mp hp with w|w
   ·exact ha p w
   ·rw[List.mem_singleton.mp w];exact mb) (by simp;omega) h (by omega)
  have i2:=fun x0 x1=>unlike_comp r (i + 1) acc x0 x1 Q e2 ha (by omega) h (by omega)
  simp only[List.map_append,List.map_cons,List.map_nil]at i1
  have oo:=eqOk_iQ b a
  simp only[List.map_cons,enumT,compT]
  generalize compT (gT 2 (gsC (gN 0) (gsC (gN 1) gs0))) (tCmpT cNeT (wVar 1) (w2 rIxTT (wVar 2) (w2 rSubT (wVar 0) (wC (.int 1))))) (wVar 1) (enumT (i + 1) (r.map iQ))=F at i1 i2 ⊢
  walk_at "tw"
  rw[ea]
  exact⟨oo,fun _=>i1 _ _,fun _=>i2 _ _⟩
theorem round_b0{D:DT}{us:List T}{x y z:T}{v k:Int}{own:List T}{s0 s5:Slot}(len:(us.length:Int)≠0)(e1:atI us ((k + 1).fmod us.length)=some z)(e2:atI us (k - 1)=some x)(t:∀{Q:T->Prop},Q (hT v)->Z05 [x,y,z] Q)(hl:own.length < 900)
  (h1:0 < v->∀s5,D.nx [s0,.val (.lst us),.own (own++[y]),.val (.int k),.val y,s5]) (h2:¬ 0 < v->∀s5,D.nx [s0,.val (.lst us),.own own,.val (.int k),.val y,s5]):Z06 D [s0,.val (.lst us),.own own,.val (.int k),.val y,s5]:=by
 unfold Z06
 walk_at "go"
 rw[e1]
 walk_at "go"
 rw[e2]
 walk_at "go"
 obtain⟨x1,y1,z1,e,g1,g2,g3,q⟩:=t (Q:=fun v'=>v'=hT v) rfl
 refine⟨x1,y1,z1,e,g1,g2,g3,?_⟩
 rw[q]
 have hn:0 < frN v 6350400 ↔ 0 < v:=by
  have a1:=frN_nn (n:=v) (m:=6350400) (by decide)
  have a2:=frN_nn (n:=0 - v) (m:=6350400) (by decide)
  have a3:frN v 6350400=0 ↔ v=0:=by
   constructor
   ·intro e
    by_cases z:v=0
    ·exact z
    ·exact absurd e (frN_ne (by decide) z)
   ·intro e
    have a4:=frN_sg (n:=v) (m:=6350400) (x:=1) (by decide)
    have a5:=frN_sg (n:=v) (m:=6350400) (x:=-1) (by decide)
    omega
  omega
 walk_at "tw"
 by_cases hv:0 < v
 ·have e3:decide (frN v 6350400 > 0)=true:=decide_eq_true (hn.mpr hv)
  exact⟨fun _=>⟨by omega,h1 hv _⟩,fun z=>Bool.noConfusion (e3.symm.trans z)⟩
 ·have e3:decide (frN v 6350400 > 0)=false:=decide_eq_false (fun z=>hv (hn.mp z))
  exact⟨fun z=>Bool.noConfusion (z.symm.trans e3),fun _=>h2 hv _⟩
theorem at_mod{α:Type}{f:α->T}{l:List α}(i:Nat)(h:0 < l.length):∃x,x∈l/\atI (l.map f) (((i:Int) + 1).fmod ((l.map f).length:Int))=some (f x):=by
 have b:=fmod_pos ((i:Int) + 1) (b:=((l.map f).length:Int)) (by rw[List.length_map];omega)
 rw[List.length_map]at b ⊢
 obtain⟨k,hk⟩:∃k:Nat,((i:Int) + 1).fmod (l.length:Int)=(k:Int):=⟨_,(Int.toNat_of_nonneg b.1).symm⟩
 rw[hk]at b ⊢
 have hk':k < l.length:=by omega
 exact⟨l[k],List.getElem_mem hk',at_nat (List.getElem?_eq_getElem hk')⟩
theorem round_loop{D:DT}{us:List P2}{s0:Slot}(sm:∀p∈us,Sm p)(z:∀a∈us,∀b∈us,∀c∈us,trn a b c=0)(h:∀s3 s4 s5,D.nx [s0,.val (.lst (us.map iQ)),.own [],s3,s4,s5]):∀(r:List P2)(i:Nat)(s3 s4 s5:Slot),us.drop i=r →
  forT (gT 2 (gsC (gN 3) (gsC (gN 4) gs0))) Z06 (enumT i (r.map iQ)) D [s0,.val (.lst (us.map iQ)),.own [],s3,s4,s5]
 | [],i,s3,s4,s5,_=>by
  simp only[List.map,enumT,forT]
  exact h _ _ _
 | b::r,i,s3,s4,s5,e=>by
  obtain⟨e1,e2,mb⟩:=drop_cons e
  have hi:i < us.length:=(List.getElem?_eq_some_iff.mp e1).1
  obtain⟨a,ma,ea⟩:=at_back (f:=iQ) hi
  obtain⟨c,mc,ec⟩:=at_mod (f:=iQ) (l:=us) i (by omega)
  have ih:=fun s3 s4 s5=>round_loop (D:=D) sm z h r (i + 1) s3 s4 s5 e2
  simp only[List.map_cons,enumT,forT]
  generalize forT (gT 2 (gsC (gN 3) (gsC (gN 4) gs0))) Z06 (enumT (i + 1) (r.map iQ)) D=F at ih ⊢
  simp only[gT,gsC,gs0,gN,sput,List.length_cons,List.length_nil,true_and]
  exact round_b0 (D:={D with nx:=F,ct:=F,bk:=D.nx}) (v:=trn a b c) (by rw[List.length_map];omega) ec ea (fun q=>turn_cal (sm a ma) (sm b mb) (sm c mc) q) (by simp) (fun y=>absurd y (by rw[z a ma b mb c mc];decide)) fun _ s5=>ih _ _ _
theorem ne_iQ{p q:P2}(h:p≠q):eqT (iQ p) (iQ q)=false:=by rw[eqT_iQ];exact decide_eq_false h
theorem part4{Q:T->Prop}{a b c d:P2}(ha:Sm a)(hb:Sm b)(hc:Sm c)(hd:Sm d)(n1:a≠d)(n2:b≠a)(n3:c≠b)(n4:d≠c)(t1:0 < trn d a b)(t2:0 < trn a b c)(t3:0 < trn b c d)(t4:0 < trn c d a)
  (q:Z0l [.lst ([a,b,c,d].map iQ)] Q):Z1M {nx:=fun _=>Q .non,rt:=Q} (startT 6 [.lst ([a,b,c,d].map iQ)]):=by
 have q1:=ne_iQ n1
 have q2:=ne_iQ n2
 have q3:=ne_iQ n3
 have q4:=ne_iQ n4
 have o1:=eqOk_iQ a d
 have o2:=eqOk_iQ b a
 have o3:=eqOk_iQ c b
 have o4:=eqOk_iQ d c
 have c1:∀{Q:T->Prop},Q (hT (trn d a b))->Z05 [iQ d,iQ a,iQ b] Q:=fun q=>turn_cal hd ha hb q
 have c2:∀{Q:T->Prop},Q (hT (trn a b c))->Z05 [iQ a,iQ b,iQ c] Q:=fun q=>turn_cal ha hb hc q
 have c3:∀{Q:T->Prop},Q (hT (trn b c d))->Z05 [iQ b,iQ c,iQ d] Q:=fun q=>turn_cal hb hc hd q
 have c4:∀{Q:T->Prop},Q (hT (trn c d a))->Z05 [iQ c,iQ d,iQ a] Q:=fun q=>turn_cal hc hd ha q
 have hn:∀x:P2,∃xs,iQ x=.tup xs:=fun x=>⟨_,rfl⟩
 obtain⟨as,ea⟩:=hn a
 obtain⟨bs,eb⟩:=hn b
 obtain⟨cs,ec⟩:=hn c
 obtain⟨ds,ed⟩:=hn d
 simp only[List.map]at q ⊢
 rw[ea,eb,ec,ed]at q ⊢
 rw[ea,ed]at q1 o1
 rw[eb,ea]at q2 o2
 rw[ec,eb]at q3 o3
 rw[ed,ec]at q4 o4
 simp only[ea,eb,ec,ed]at c1 c2 c3 c4
 obtain⟨S,hS⟩:∃S,S=Z0l:=⟨_,rfl⟩
 have q':S [.lst [.tup as,.tup bs,.tup cs,.tup ds]] (Q):=by rw[hS];exact q
 unfold Z1M
 obtain⟨W0,hW0⟩:∃W,W=Z06:=⟨_,rfl⟩
 rw[← hW0,← hS]
 walk_at "go"
 rw[q1]
 refine⟨fun _=>?_,fun z=>by cases z⟩
 walk_at "go"
 rw[q2]
 refine⟨fun _=>?_,fun z=>by cases z⟩
 walk_at "go"
 rw[q3]
 refine⟨fun _=>?_,fun z=>by cases z⟩
 walk_at "go"
 rw[q4]
 refine⟨fun _=>?_,fun z=>by cases z⟩
 walk_at "go"
 refine Eq.mpr (congrFun (congrFun hW0 _) _) ?_
 refine round_b0 (us:=[.tup as,.tup bs,.tup cs,.tup ds]) (k:=0) (own:=[]) (v:=trn d a b) (x:=.tup ds) (y:=.tup as) (z:=.tup bs) (by simp) (show atI [T.tup as,T.tup bs,T.tup cs,T.tup ds] ((1:Int).fmod 4)=_ from rfl) rfl (fun q=>c1 q) (by decide) (fun _ s5=>?_) (fun z=>absurd t1 z)
 walk_at "go"
 refine Eq.mpr (congrFun (congrFun hW0 _) _) ?_
 refine round_b0 (us:=[.tup as,.tup bs,.tup cs,.tup ds]) (k:=1) (own:=[.tup as]) (v:=trn a b c) (x:=.tup as) (y:=.tup bs) (z:=.tup cs) (by simp) (show atI [T.tup as,T.tup bs,T.tup cs,T.tup ds] ((2:Int).fmod 4)=_ from rfl) rfl (fun q=>c2 q) (by simp) (fun _ s5=>?_) (fun z=>absurd t2 z)
 walk_at "go"
 refine Eq.mpr (congrFun (congrFun hW0 _) _) ?_
 refine round_b0 (us:=[.tup as,.tup bs,.tup cs,.tup ds]) (k:=2) (own:=[.tup as,.tup bs]) (v:=trn b c d) (x:=.tup bs) (y:=.tup cs) (z:=.tup ds) (by simp) (show atI [T.tup as,T.tup bs,T.tup cs,T.tup ds] ((3:Int).fmod 4)=_ from rfl) rfl (fun q=>c3 q) (by simp) (fun _ s5=>?_) (fun z=>absurd t3 z)
 walk_at "go"
 refine Eq.mpr (congrFun (congrFun hW0 _) _) ?_
 refine round_b0 (us:=[.tup as,.tup bs,.tup cs,.tup ds]) (k:=3) (own:=[.tup as,.tup bs,.tup cs]) (v:=trn c d a) (x:=.tup cs) (y:=.tup ds) (z:=.tup as) (by simp) (show atI [T.tup as,T.tup bs,T.tup cs,T.tup ds] ((4:Int).fmod 4)=_ from rfl) rfl (fun q=>c4 q) (by simp) (fun _ s5=>?_) (fun z=>absurd t4 z)
 walk_at "go"
 exact q'
theorem Z4k:∀ts Q,Z0G ts Q->Z1M {nx:=fun _=>Q .non,rt:=Q} (startT 6 ts):=by
 rintro _ Q (⟨ps,rfl,hl,sm,z,q⟩|⟨x0,x1,y0,y1,ht,B,q⟩)
 ·unfold Z1M
  obtain⟨W0,hW0⟩:∃W,W=Z06:=⟨_,rfl⟩
  rw[← hW0]
  walk_at "tw"
  refine⟨by rw[enumT_length,List.length_map];omega,?_⟩
  refine unlike_comp ps 0 [] _ _ _ rfl (fun p hp=>absurd hp (by simp)) (by simp) (fun us hu lu=>?_) (by omega)
  rw[hW0]
  refine round_loop (fun p hp=>sm p (hu p hp)) (fun a ma b mb c mc=>z a (hu a ma) b (hu b mb) c (hu c mc)) (fun s3 s4 s5=>?_) us 0 _ _ _ rfl
  exact .inl ⟨rfl,q⟩
 ·obtain⟨hx,hy,b1,b2,b3,b4⟩:=B
  have pos:0 < (x1 - x0) * (y1 - y0):=Int.mul_pos (by omega) (by omega)
  have s00:Sm (x0,y0):=⟨⟨by show -200000 < x0;omega,by show x0 < 200000;omega⟩,by show -200000 < y0;omega,by show y0 < 200000;omega⟩
  have s10:Sm (x1,y0):=⟨⟨by show -200000 < x1;omega,by show x1 < 200000;omega⟩,by show -200000 < y0;omega,by show y0 < 200000;omega⟩
  have s11:Sm (x1,y1):=⟨⟨by show -200000 < x1;omega,by show x1 < 200000;omega⟩,by show -200000 < y1;omega,by show y1 < 200000;omega⟩
  have s01:Sm (x0,y1):=⟨⟨by show -200000 < x0;omega,by show x0 < 200000;omega⟩,by show -200000 < y1;omega,by show y1 < 200000;omega⟩
  have ne:∀{a b c d:Int},a≠c∨b≠d->((a,b):P2)≠(c,d):=fun h e=>by
   simp only[Prod.mk.injEq]at e
   omega
  have e1:trn (x0,y1) (x0,y0) (x1,y0)=(x1 - x0) * (y1 - y0):=by simp only[trn];grind
  have e2:trn (x0,y0) (x1,y0) (x1,y1)=(x1 - x0) * (y1 - y0):=by simp only[trn];grind
  have e3:trn (x1,y0) (x1,y1) (x0,y1)=(x1 - x0) * (y1 - y0):=by simp only[trn];grind
  have e4:trn (x1,y1) (x0,y1) (x0,y0)=(x1 - x0) * (y1 - y0):=by simp only[trn];grind
  obtain⟨l,rfl,ht⟩:=ht
  have sm4:∀{a b c d:P2},Sm a->Sm b->Sm c->Sm d->∀p∈[a,b,c,d],Sm p:=fun h1 h2 h3 h4 p hp=>by
   simp only[List.mem_cons,List.not_mem_nil,or_false]at hp
   rcases hp with rfl|rfl|rfl|rfl<;>assumption
  have low:∀{l:List P2}{k:Nat},l.length=4->l[k]?=some (x0,y0)->(∀p∈l,p=(x0,y0)∨lowP (x0,y0) p)->(∀(j:Nat)(q:P2),j < k->l[j]?=some q->q≠(x0,y0))->IsLow l k:=fun {l k} hl e h1 h2=>⟨_,e,fun j q eq=>⟨fun hj=>?_,fun hj=>?_⟩⟩
  ·rcases ht with rfl|rfl|rfl|rfl
   ·refine part4 s00 s10 s11 s01 (ne (by omega)) (ne (by omega)) (ne (by omega)) (ne (by omega)) (by rw[e1];exact pos) (by rw[e2];exact pos) (by rw[e3];exact pos) (by rw[e4];exact pos) ?_
    exact .inr ⟨[(x0,y0),(x1,y0),(x1,y1),(x0,y1)],0,rfl,by simp,sm4 s00 s10 s11 s01,low rfl rfl (by simp[lowP];omega) (fun j q hj=>absurd hj (by omega)),q⟩
   ·refine part4 s10 s11 s01 s00 (ne (by omega)) (ne (by omega)) (ne (by omega)) (ne (by omega)) (by rw[e2];exact pos) (by rw[e3];exact pos) (by rw[e4];exact pos) (by rw[e1];exact pos) ?_
    exact .inr ⟨[(x1,y0),(x1,y1),(x0,y1),(x0,y0)],3,rfl,by simp,sm4 s10 s11 s01 s00,low rfl rfl (by simp[lowP];omega) (fun j q hj eq=>by
     have:j=0∨j=1∨j=2:=by omega
     rcases this with rfl|rfl|rfl<;>(cases eq;exact ne (by omega))),q⟩
   ·refine part4 s11 s01 s00 s10 (ne (by omega)) (ne (by omega)) (ne (by omega)) (ne (by omega)) (by rw[e3];exact pos) (by rw[e4];exact pos) (by rw[e1];exact pos) (by rw[e2];exact pos) ?_
    exact .inr ⟨[(x1,y1),(x0,y1),(x0,y0),(x1,y0)],2,rfl,by simp,sm4 s11 s01 s00 s10,low rfl rfl (by simp[lowP];omega) (fun j q hj eq=>by
     have:j=0∨j=1:=by omega
     rcases this with rfl|rfl<;>(cases eq;exact ne (by omega))),q⟩
   ·refine part4 s01 s00 s10 s11 (ne (by omega)) (ne (by omega)) (ne (by omega)) (ne (by omega)) (by rw[e4];exact pos) (by rw[e1];exact pos) (by rw[e2];exact pos) (by rw[e3];exact pos) ?_
    exact .inr ⟨[(x0,y1),(x0,y0),(x1,y0),(x1,y1)],1,rfl,by simp,sm4 s01 s00 s10 s11,low rfl rfl (by simp[lowP];omega) (fun j q hj eq=>by
     have:j=0:=by omega
     subst this
     cases eq
     exact ne (by omega)),q⟩
  ·rcases h1 q (List.mem_of_getElem? eq) with z|z
   ·exact absurd z (h2 j q hj eq)
   ·exact z
  ·rcases h1 q (List.mem_of_getElem? eq) with z|z
   ·rw[z];unfold lowP;omega
   ·unfold lowP at z ⊢;omega
theorem nn2{a b:Int}(h:(0<=a/\0<=b)∨(a<=0/\b<=0)):¬ a * b < 0:=by
 rcases h with ⟨x,y⟩|⟨x,y⟩
 ·have:=Int.mul_nonneg x y;omega
 ·have:=Int.mul_nonneg_of_nonpos_of_nonpos x y;omega
theorem np2{a b:Int}(h:(a < 0/\0 < b)∨(0 < a/\b < 0)):a * b < 0:=by
 rcases h with ⟨x,y⟩|⟨x,y⟩
 ·exact Int.mul_neg_of_neg_of_pos x y
 ·exact Int.mul_neg_of_pos_of_neg x y
theorem cut4(f:P2->Int)(cr:P2->P2->P2)(a b c d:P2):cutW f cr [a,b,c,d]=(if f d * f a < 0 then [cr d a] else [])++((if 0<=f a then [a] else [])++((if f a * f b < 0 then [cr a b] else [])++((if 0<=f b then [b] else [])++((if f b * f c < 0 then [cr b c] else [])++((if 0<=f c then [c] else [])++((if f c * f d < 0 then [cr c d] else [])++((if 0<=f d then [d] else [])++[]))))))):=rfl
abbrev gx0(w X:Int)(p:P2):Int:=w * (p.1 - X)
abbrev gx1(w X:Int)(p:P2):Int:=w * (X - p.1)
abbrev gy0(w Y:Int)(p:P2):Int:=w * (p.2 - Y)
abbrev gy1(w Y:Int)(p:P2):Int:=w * (Y - p.2)
abbrev crx(X:Int)(a _b:P2):P2:=(X,a.2)
abbrev cry(Y:Int)(a _b:P2):P2:=(a.1,Y)
theorem sc2{w a b:Int}(hw:0 < w):w * a * (w * b) < 0 ↔ a * b < 0:=by
 rw[show w * a * (w * b)=w * (w * (a * b)) by grind,neg_sc hw,neg_sc hw]
theorem sc0{w a:Int}(hw:0 < w):0<=w * a ↔ 0<=a:=by
 have:=neg_sc (y:=a) hw
 omega
section
variable {w x0 x1 y0 y1 X:Int}
theorem cx0_a(hw:0 < w)(hx:x0 < x1)(h:X<=x0):cutW (gx0 w X) (crx X) (box0 x0 x1 y0 y1)=box0 x0 x1 y0 y1:=by
 rw[cut4]
 simp only[gx0,sc2 hw,sc0 hw]
 simp only[if_neg (nn2 (a:=x0 - X) (b:=x0 - X) (by omega)),if_neg (nn2 (a:=x0 - X) (b:=x1 - X) (by omega)),if_neg (nn2 (a:=x1 - X) (b:=x1 - X) (by omega)),if_neg (nn2 (a:=x1 - X) (b:=x0 - X) (by omega)),if_pos (show 0<=x0 - X by omega),if_pos (show 0<=x1 - X by omega)]
 rfl
theorem cx0_b(hw:0 < w)(hx:x0 < X)(h:X < x1):cutW (gx0 w X) (crx X) (box0 x0 x1 y0 y1)=box0 X x1 y0 y1:=by
 rw[cut4]
 simp only[gx0,sc2 hw,sc0 hw]
 simp only[if_neg (nn2 (a:=x0 - X) (b:=x0 - X) (by omega)),if_pos (np2 (a:=x0 - X) (b:=x1 - X) (by omega)),if_neg (nn2 (a:=x1 - X) (b:=x1 - X) (by omega)),if_pos (np2 (a:=x1 - X) (b:=x0 - X) (by omega)),if_neg (show ¬ 0<=x0 - X by omega),if_pos (show 0<=x1 - X by omega)]
 rfl
theorem cx1_a(hw:0 < w)(hx:x0 < x1)(h:x1<=X):cutW (gx1 w X) (crx X) (box0 x0 x1 y0 y1)=box0 x0 x1 y0 y1:=by
 rw[cut4]
 simp only[gx1,sc2 hw,sc0 hw]
 simp only[if_neg (nn2 (a:=X - x0) (b:=X - x0) (by omega)),if_neg (nn2 (a:=X - x0) (b:=X - x1) (by omega)),if_neg (nn2 (a:=X - x1) (b:=X - x1) (by omega)),if_neg (nn2 (a:=X - x1) (b:=X - x0) (by omega)),if_pos (show 0<=X - x0 by omega),if_pos (show 0<=X - x1 by omega)]
 rfl
theorem cx1_b(hw:0 < w)(hx:x0 < X)(h:X < x1):cutW (gx1 w X) (crx X) (box0 x0 x1 y0 y1)=box0 x0 X y0 y1:=by
 rw[cut4]
 simp only[gx1,sc2 hw,sc0 hw]
 simp only[if_neg (nn2 (a:=X - x0) (b:=X - x0) (by omega)),if_pos (np2 (a:=X - x0) (b:=X - x1) (by omega)),if_neg (nn2 (a:=X - x1) (b:=X - x1) (by omega)),if_pos (np2 (a:=X - x1) (b:=X - x0) (by omega)),if_pos (show 0<=X - x0 by omega),if_neg (show ¬ 0<=X - x1 by omega)]
 rfl
theorem cy0_a(hw:0 < w)(hy:y0 < y1)(h:X<=y0):cutW (gy0 w X) (cry X) (box0 x0 x1 y0 y1)=box0 x0 x1 y0 y1:=by
 rw[cut4]
 simp only[gy0,sc2 hw,sc0 hw]
 simp only[if_neg (nn2 (a:=y0 - X) (b:=y0 - X) (by omega)),if_neg (nn2 (a:=y0 - X) (b:=y1 - X) (by omega)),if_neg (nn2 (a:=y1 - X) (b:=y1 - X) (by omega)),if_neg (nn2 (a:=y1 - X) (b:=y0 - X) (by omega)),if_pos (show 0<=y0 - X by omega),if_pos (show 0<=y1 - X by omega)]
 rfl
theorem cy0_b(hw:0 < w)(hy:y0 < X)(h:X < y1):cutW (gy0 w X) (cry X) (box0 x0 x1 y0 y1)=box0 x0 x1 X y1:=by
 rw[cut4]
 simp only[gy0,sc2 hw,sc0 hw]
 simp only[if_pos (np2 (a:=y1 - X) (b:=y0 - X) (by omega)),if_neg (nn2 (a:=y0 - X) (b:=y0 - X) (by omega)),if_pos (np2 (a:=y0 - X) (b:=y1 - X) (by omega)),if_neg (nn2 (a:=y1 - X) (b:=y1 - X) (by omega)),if_neg (show ¬ 0<=y0 - X by omega),if_pos (show 0<=y1 - X by omega)]
 rfl
theorem cy1_a(hw:0 < w)(hy:y0 < y1)(h:y1<=X):cutW (gy1 w X) (cry X) (box0 x0 x1 y0 y1)=box0 x0 x1 y0 y1:=by
 rw[cut4]
 simp only[gy1,sc2 hw,sc0 hw]
 simp only[if_neg (nn2 (a:=X - y0) (b:=X - y0) (by omega)),if_neg (nn2 (a:=X - y0) (b:=X - y1) (by omega)),if_neg (nn2 (a:=X - y1) (b:=X - y1) (by omega)),if_neg (nn2 (a:=X - y1) (b:=X - y0) (by omega)),if_pos (show 0<=X - y0 by omega),if_pos (show 0<=X - y1 by omega)]
 rfl
theorem cy1_b(hw:0 < w)(hy:y0 < X)(h:X < y1):cutW (gy1 w X) (cry X) (box0 x0 x1 y0 y1)=box3 x0 x1 y0 X:=by
 rw[cut4]
 simp only[gy1,sc2 hw,sc0 hw]
 simp only[if_pos (np2 (a:=X - y1) (b:=X - y0) (by omega)),if_neg (nn2 (a:=X - y0) (b:=X - y0) (by omega)),if_pos (np2 (a:=X - y0) (b:=X - y1) (by omega)),if_neg (nn2 (a:=X - y1) (b:=X - y1) (by omega)),if_pos (show 0<=X - y0 by omega),if_neg (show ¬ 0<=X - y1 by omega)]
 rfl
end
theorem mem_cutL{f:P2->Int}{cr:P2->P2->P2}{p:P2}:∀{r:List P2}{a:P2},p∈cutL f cr a r->(p∈r/\0<=f p)∨∃u v,(u=a∨u∈r)/\v∈r/\f u * f v < 0/\p=cr u v
 | [],a,h=>by simp[cutL]at h
 | b::r,a,h=>by
  simp only[cutL,List.mem_append]at h
  rcases h with h|h|h
  ·split at h
   ·exact .inr ⟨a,b,.inl rfl,List.mem_cons_self,by assumption,List.mem_singleton.mp h⟩
   ·simp at h
  ·split at h
   ·rw[List.mem_singleton.mp h];exact .inl ⟨List.mem_cons_self,by assumption⟩
   ·simp at h
  ·rcases mem_cutL h with ⟨h,g⟩|⟨u,v,hu,hv,hz,e⟩
   ·exact .inl ⟨List.mem_cons_of_mem _ h,g⟩
   ·exact .inr ⟨u,v,.inr (by rcases hu with rfl|hu;exact List.mem_cons_self;exact List.mem_cons_of_mem _ hu),List.mem_cons_of_mem _ hv,hz,e⟩
theorem last_mem{a:P2}{r:List P2}:r.getLastD a∈a::r:=by
 cases r with
 | nil=>exact List.mem_cons_self
 | cons b r=>exact List.mem_cons_of_mem _ (by simp[List.getLastD])
theorem mem_cutW{f:P2->Int}{cr:P2->P2->P2}{p:P2}{ps:List P2}(h:p∈cutW f cr ps):(p∈ps/\0<=f p)∨∃u v,u∈ps/\v∈ps/\f u * f v < 0/\p=cr u v:=by
 cases ps with
 | nil=>simp[cutW]at h
 | cons a r =>
  rcases mem_cutL (show p∈cutL f cr (r.getLastD a) (a::r) from h) with h|⟨u,v,hu,hv,hz,e⟩
  ·exact .inl h
  ·exact .inr ⟨u,v,by rcases hu with rfl|hu;exact last_mem;exact hu,hv,hz,e⟩
theorem len_cutL{f:P2->Int}{cr:P2->P2->P2}:∀{r:List P2}{a:P2},(cutL f cr a r).length<=2 * r.length
 | [],a=>by simp[cutL]
 | b::r,a=>by
  have:=len_cutL (f:=f) (cr:=cr) (r:=r) (a:=b)
  simp only[cutL,List.length_append,List.length_cons]
  split<;>split<;>simp<;>omega
theorem len_cutW{f:P2->Int}{cr:P2->P2->P2}{ps:List P2}:(cutW f cr ps).length<=2 * ps.length:=by
 cases ps with
 | nil=>simp[cutW]
 | cons a r=>exact len_cutL
theorem cxOk_of{f:P2->Int}{cr:P2->P2->P2}:∀{r:List P2}{a:P2}{L:List P2},a∈L->(∀x∈r,x∈L)->(∀u∈L,∀v∈L,f u * f v < 0->u.1 * (f u - f v) + f u * (v.1 - u.1)=(cr u v).1 * (f u - f v)/\u.2 * (f u - f v) + f u * (v.2 - u.2)=(cr u v).2 * (f u - f v))->CxOk f cr a r
 | [],a,L,_,_,_=>trivial
 | b::r,a,L,ha,hr,h=>⟨h a ha b (hr b List.mem_cons_self),cxOk_of (hr b List.mem_cons_self) (fun x hx=>hr x (List.mem_cons_of_mem _ hx)) h⟩
def Rot(l l':List P2):Prop:=∃a b,l=a++b/\l'=b++a
theorem Rot.refl(l:List P2):Rot l l:=⟨[],l,rfl,by simp⟩
theorem cutL_app{f:P2->Int}{cr:P2->P2->P2}:∀(a b:List P2)(p:P2),cutL f cr p (a++b)=cutL f cr p a++cutL f cr (a.getLastD p) b
 | [],b,p=>rfl
 | x::a,b,p=>by
  rw[List.cons_append]
  simp only[cutL,List.append_assoc,List.getLastD_cons]
  rw[cutL_app a b x]
theorem cxOk_app{f:P2->Int}{cr:P2->P2->P2}:∀(a b:List P2)(p:P2),CxOk f cr p (a++b) ↔ CxOk f cr p a/\CxOk f cr (a.getLastD p) b
 | [],b,p=>by simp[CxOk]
 | x::a,b,p=>by
  rw[List.cons_append]
  simp only[CxOk,List.getLastD_cons]
  rw[cxOk_app a b x,and_assoc]
theorem cutW_eq{f:P2->Int}{cr:P2->P2->P2}(l:List P2)(d:P2):cutW f cr l=cutL f cr (l.getLastD d) l:=by
 cases l with
 | nil=>rfl
 | cons a r=>simp only[cutW,List.getLastD_cons]
theorem cxW_eq{f:P2->Int}{cr:P2->P2->P2}(l:List P2)(d:P2):CxW f cr l ↔ CxOk f cr (l.getLastD d) l:=by
 cases l with
 | nil=>simp[CxW,CxOk]
 | cons a r=>simp only[CxW,List.getLastD_cons]
theorem last_app(a b:List P2)(d:P2):(a++b).getLastD d=b.getLastD (a.getLastD d):=by
 induction a generalizing d with
 | nil=>rfl
 | cons x a ih=>rw[List.cons_append,List.getLastD_cons,List.getLastD_cons,ih]
theorem Rot.cut{f:P2->Int}{cr:P2->P2->P2}{l l':List P2}(R:Rot l l'):Rot (cutW f cr l) (cutW f cr l'):=by
 obtain⟨a,b,rfl,rfl⟩:=R
 cases a with
 | nil=>simp only[List.nil_append,List.append_nil];exact Rot.refl _
 | cons x a =>
  cases b with
  | nil=>simp only[List.nil_append,List.append_nil];exact Rot.refl _
  | cons y b =>
   refine⟨cutL f cr (b.getLastD y) (x::a),cutL f cr (a.getLastD x) (y::b),?_,?_⟩
   ·rw[cutW_eq _ (0,0),last_app,cutL_app,List.getLastD_cons,List.getLastD_cons]
   ·rw[cutW_eq _ (0,0),last_app,cutL_app,List.getLastD_cons,List.getLastD_cons]
theorem Rot.cx{f:P2->Int}{cr:P2->P2->P2}{l l':List P2}(R:Rot l l')(h:CxW f cr l):CxW f cr l':=by
 obtain⟨a,b,rfl,rfl⟩:=R
 cases a with
 | nil=>simpa using h
 | cons x a =>
  cases b with
  | nil=>simpa using h
  | cons y b =>
   rw[cxW_eq _ (0,0),last_app,cxOk_app,List.getLastD_cons,List.getLastD_cons]at h ⊢
   exact⟨h.2,h.1⟩
theorem Rot.mem{l l':List P2}(R:Rot l l'){p:P2}:p∈l' ↔ p∈l:=by
 obtain⟨a,b,rfl,rfl⟩:=R
 rw[List.mem_append,List.mem_append,or_comm]
theorem Rot.len{l l':List P2}(R:Rot l l'):l'.length=l.length:=by
 obtain⟨a,b,rfl,rfl⟩:=R
 rw[List.length_append,List.length_append,Nat.add_comm]
theorem Rot.four{a b c d:P2}{l:List P2}(R:Rot [a,b,c,d] l):l=[a,b,c,d]∨l=[b,c,d,a]∨l=[c,d,a,b]∨l=[d,a,b,c]:=by
 obtain⟨x,y,e,rfl⟩:=R
 rcases x with _|⟨x1,_|⟨x2,_|⟨x3,_|⟨x4,_|⟨x5,x⟩⟩⟩⟩⟩
 ·simp only[List.nil_append]at e
  subst e
  simp
 ·simp only[List.cons_append,List.nil_append,List.cons.injEq]at e
  obtain⟨rfl,rfl⟩:=e
  simp
 ·simp only[List.cons_append,List.nil_append,List.cons.injEq]at e
  obtain⟨rfl,rfl,rfl⟩:=e
  simp
 ·simp only[List.cons_append,List.nil_append,List.cons.injEq]at e
  obtain⟨rfl,rfl,rfl,rfl⟩:=e
  simp
 ·simp only[List.cons_append,List.nil_append,List.cons.injEq]at e
  obtain⟨rfl,rfl,rfl,rfl,e⟩:=e
  subst e
  simp
 ·simp only[List.cons_append,List.cons.injEq]at e
  obtain⟨_,_,_,_,e⟩:=e
  cases e
structure Lin(n:Nat)(ps:List P2):Prop where
 len:ps.length<=n
 sm:∀p∈ps,Sm p
 on:(∃x,∀p∈ps,p.1=x)∨∃y,∀p∈ps,p.2=y
theorem Lin.trn{n:Nat}{ps:List P2}(L:Lin n ps):∀a∈ps,∀b∈ps,∀c∈ps,trn a b c=0:=fun a ma b mb c mc=>by
 rcases L.on with ⟨x,h⟩|⟨y,h⟩
 ·have e1:=h a ma
  have e2:=h b mb
  have e3:=h c mc
  simp only[TL.trn]
  rw[e1,e2,e3,Int.sub_self,Int.zero_mul,Int.mul_zero,Int.sub_self]
 ·have e1:=h a ma
  have e2:=h b mb
  have e3:=h c mc
  simp only[TL.trn]
  rw[e1,e2,e3,Int.sub_self,Int.zero_mul,Int.mul_zero,Int.sub_self]
abbrev CEq(g:P2->Int)(cr:P2->P2->P2)(u v:P2):Prop:=u.1 * (g u - g v) + g u * (v.1 - u.1)=(cr u v).1 * (g u - g v)/\u.2 * (g u - g v) + g u * (v.2 - u.2)=(cr u v).2 * (g u - g v)
structure XK(g:P2->Int)(cr:P2->P2->P2):Prop where
 same:∀u v:P2,u.1=v.1->g u=g v
 at2:∀u v:P2,(cr u v).2=u.2
 sm:∀u v:P2,Sm u->Sm (cr u v)
 eq:∀u v:P2,u.2=v.2->CEq g cr u v
structure YK(g:P2->Int)(cr:P2->P2->P2):Prop where
 same:∀u v:P2,u.2=v.2->g u=g v
 at1:∀u v:P2,(cr u v).1=u.1
 sm:∀u v:P2,Sm u->Sm (cr u v)
 eq:∀u v:P2,u.1=v.1->CEq g cr u v
theorem sq_nn{a b:Int}(e:a=b):¬ a * b < 0:=by
 subst e
 rcases Int.le_total 0 a with h|h
 ·exact nn2 (.inl ⟨h,h⟩)
 ·exact nn2 (.inr ⟨h,h⟩)
theorem cxW_of{g:P2->Int}{cr:P2->P2->P2}{ps:List P2}(h:∀u∈ps,∀v∈ps,g u * g v < 0->CEq g cr u v):CxW g cr ps:=by
 cases ps with
 | nil=>trivial
 | cons a r=>exact cxOk_of last_mem (fun x hx=>hx) h
theorem lin_step{g:P2->Int}{cr:P2->P2->P2}{n:Nat}{ps:List P2}(K:XK g cr∨YK g cr)(L:Lin n ps):CxW g cr ps/\Lin (2 * n) (cutW g cr ps):=by
 have hl:=len_cutW (f:=g) (cr:=cr) (ps:=ps)
 have l0:=L.len
 rcases K with K|K
 ·have sm:∀p∈cutW g cr ps,Sm p:=fun p hp=>by
   rcases mem_cutW hp with ⟨m,_⟩|⟨u,v,mu,mv,_,rfl⟩
   ·exact L.sm p m
   ·exact K.sm u v (L.sm u mu)
  rcases L.on with ⟨x,h⟩|⟨y,h⟩
  ·refine⟨cxW_of fun u mu v mv z=>absurd z (sq_nn (K.same u v ((h u mu).trans (h v mv).symm))),by omega,sm,.inl ⟨x,fun p hp=>?_⟩⟩
   rcases mem_cutW hp with ⟨m,_⟩|⟨u,v,mu,mv,z,rfl⟩
   ·exact h p m
   ·exact absurd z (sq_nn (K.same u v ((h u mu).trans (h v mv).symm)))
  ·refine⟨cxW_of fun u mu v mv _=>K.eq u v ((h u mu).trans (h v mv).symm),by omega,sm,.inr ⟨y,fun p hp=>?_⟩⟩
   rcases mem_cutW hp with ⟨m,_⟩|⟨u,v,mu,mv,z,rfl⟩
   ·exact h p m
   ·rw[K.at2];exact h u mu
 ·have sm:∀p∈cutW g cr ps,Sm p:=fun p hp=>by
   rcases mem_cutW hp with ⟨m,_⟩|⟨u,v,mu,mv,_,rfl⟩
   ·exact L.sm p m
   ·exact K.sm u v (L.sm u mu)
  rcases L.on with ⟨x,h⟩|⟨y,h⟩
  ·refine⟨cxW_of fun u mu v mv _=>K.eq u v ((h u mu).trans (h v mv).symm),by omega,sm,.inl ⟨x,fun p hp=>?_⟩⟩
   rcases mem_cutW hp with ⟨m,_⟩|⟨u,v,mu,mv,z,rfl⟩
   ·exact h p m
   ·rw[K.at1];exact h u mu
  ·refine⟨cxW_of fun u mu v mv z=>absurd z (sq_nn (K.same u v ((h u mu).trans (h v mv).symm))),by omega,sm,.inr ⟨y,fun p hp=>?_⟩⟩
   rcases mem_cutW hp with ⟨m,_⟩|⟨u,v,mu,mv,z,rfl⟩
   ·exact h p m
   ·exact absurd z (sq_nn (K.same u v ((h u mu).trans (h v mv).symm)))
theorem box_cx{g:P2->Int}{cr:P2->P2->P2}{x0 x1 y0 y1:Int}(K:XK g cr∨YK g cr):CxW g cr (box0 x0 x1 y0 y1):=by
 rcases K with K|K
 ·exact⟨fun z=>absurd z (sq_nn (K.same _ _ rfl)),fun _=>K.eq _ _ rfl,fun z=>absurd z (sq_nn (K.same _ _ rfl)),fun _=>K.eq _ _ rfl,trivial⟩
 ·exact⟨fun _=>K.eq _ _ rfl,fun z=>absurd z (sq_nn (K.same _ _ rfl)),fun _=>K.eq _ _ rfl,fun z=>absurd z (sq_nn (K.same _ _ rfl)),trivial⟩
section
variable {w X:Int}
theorem xk0(hX:-200000 < X/\X < 200000):XK (gx0 w X) (crx X):=⟨fun u v e=>by simp only[gx0,e],fun u v=>rfl,fun u v s=>⟨hX,s.2⟩,fun u v e=>⟨by simp only[gx0,crx];grind,by simp only[gx0,crx,e];grind⟩⟩
theorem xk1(hX:-200000 < X/\X < 200000):XK (gx1 w X) (crx X):=⟨fun u v e=>by simp only[gx1,e],fun u v=>rfl,fun u v s=>⟨hX,s.2⟩,fun u v e=>⟨by simp only[gx1,crx];grind,by simp only[gx1,crx,e];grind⟩⟩
theorem yk0(hX:-200000 < X/\X < 200000):YK (gy0 w X) (cry X):=⟨fun u v e=>by simp only[gy0,e],fun u v=>rfl,fun u v s=>⟨s.1,hX⟩,fun u v e=>⟨by simp only[gy0,cry,e];grind,by simp only[gy0,cry];grind⟩⟩
theorem yk1(hX:-200000 < X/\X < 200000):YK (gy1 w X) (cry X):=⟨fun u v e=>by simp only[gy1,e],fun u v=>rfl,fun u v s=>⟨s.1,hX⟩,fun u v e=>⟨by simp only[gy1,cry,e];grind,by simp only[gy1,cry];grind⟩⟩
end
theorem box_sm{x0 x1 y0 y1:Int}(B:BxOk x0 x1 y0 y1):∀p∈box0 x0 x1 y0 y1,Sm p:=fun p hp=>by
 obtain⟨hx,hy,b1,b2,b3,b4⟩:=B
 simp only[List.mem_cons,List.not_mem_nil,or_false]at hp
 rcases hp with rfl|rfl|rfl|rfl<;>exact⟨⟨by simp only;omega,by simp only;omega⟩,by simp only;omega,by simp only;omega⟩
theorem box_lin{g:P2->Int}{cr:P2->P2->P2}{x0 x1 y0 y1:Int}(B:BxOk x0 x1 y0 y1)(le:∀p∈box0 x0 x1 y0 y1,g p<=0)(on:(∃x,∀p∈box0 x0 x1 y0 y1,0<=g p->p.1=x)∨∃y,∀p∈box0 x0 x1 y0 y1,0<=g p->p.2=y):Lin 8 (cutW g cr (box0 x0 x1 y0 y1)):=by
 have mem:∀p∈cutW g cr (box0 x0 x1 y0 y1),p∈box0 x0 x1 y0 y1/\0<=g p:=fun p hp=>by
  rcases mem_cutW hp with h|⟨u,v,mu,mv,z,rfl⟩
  ·exact h
  ·exact absurd z (nn2 (.inr ⟨le u mu,le v mv⟩))
 refine⟨len_cutW,fun p hp=>box_sm B p (mem p hp).1,?_⟩
 rcases on with ⟨x,h⟩|⟨y,h⟩
 ·exact .inl ⟨x,fun p hp=>h p (mem p hp).1 (mem p hp).2⟩
 ·exact .inr ⟨y,fun p hp=>h p (mem p hp).1 (mem p hp).2⟩
def Std(n:Nat)(x0 x1 y0 y1:Int)(ps:List P2):Prop:=(ps=box0 x0 x1 y0 y1/\BxOk x0 x1 y0 y1)∨(Lin n ps/\¬ (x0 < x1/\y0 < y1))
abbrev mxI(a b:Int):Int:=if a<=b then b else a
abbrev mnI(a b:Int):Int:=if a<=b then a else b
theorem box_all{P:P2->Prop}{x0 x1 y0 y1:Int}(h0:P (x0,y0))(h1:P (x1,y0))(h2:P (x1,y1))(h3:P (x0,y1)):∀p∈box0 x0 x1 y0 y1,P p:=fun p hp=>by
 simp only[List.mem_cons,List.not_mem_nil,or_false]at hp
 rcases hp with rfl|rfl|rfl|rfl<;>assumption
theorem std_cx{g:P2->Int}{cr:P2->P2->P2}{n:Nat}{x0 x1 y0 y1:Int}{ps:List P2}(K:XK g cr∨YK g cr)(S:Std n x0 x1 y0 y1 ps):CxW g cr ps:=by
 rcases S with ⟨rfl,_⟩|⟨L,_⟩
 ·exact box_cx K
 ·exact(lin_step K L).1
theorem std_sm{n:Nat}{x0 x1 y0 y1:Int}{ps:List P2}(S:Std n x0 x1 y0 y1 ps):∀p∈ps,Sm p:=by
 rcases S with ⟨rfl,B⟩|⟨L,_⟩
 ·exact box_sm B
 ·exact L.sm
theorem std_len{n:Nat}{x0 x1 y0 y1:Int}{ps:List P2}(S:Std n x0 x1 y0 y1 ps)(h:n<=100):ps.length<=100:=by
 rcases S with ⟨rfl,B⟩|⟨L,_⟩
 ·simp
 ·exact Nat.le_trans L.len h
theorem le0{w v:Int}(hw:0 < w)(h:v<=0):w * v<=0:=by
 have:=(sc0 (a:=-v) hw).mpr (by omega)
 have e:w * -v=-(w * v):=by grind
 omega
section
variable {w X x0 x1 y0 y1:Int} {n:Nat} {ps:List P2}
theorem std_x0(hw:0 < w)(hX:-200000 < X/\X < 200000)(hn:4<=n)(S:Std n x0 x1 y0 y1 ps):Std (2 * n) (mxI x0 X) x1 y0 y1 (cutW (gx0 w X) (crx X) ps):=by
 rcases S with ⟨rfl,B⟩|⟨L,z⟩
 ·have b:=B.x
  by_cases h1:X<=x0
  ·rw[cx0_a hw b h1,show mxI x0 X=x0 by simp only[mxI];split<;>omega]
   exact .inl ⟨rfl,B⟩
  ·rw[show mxI x0 X=X by simp only[mxI];split<;>omega]
   by_cases h2:X < x1
   ·rw[cx0_b hw (by omega) h2]
    exact .inl ⟨rfl,h2,B.y,hX.1,B.b,B.c,B.d⟩
   ·have nn:∀{v:Int},0<=w * (v - X)->X<=v:=fun h=>by have:=(sc0 hw).mp h;omega
    have L:=box_lin (g:=gx0 w X) (cr:=crx X) B (box_all (le0 hw (show x0 - X<=0 by omega)) (le0 hw (show x1 - X<=0 by omega)) (le0 hw (show x1 - X<=0 by omega)) (le0 hw (show x0 - X<=0 by omega))) (.inl ⟨x1,box_all (fun h=>by have:=nn h;simp only at *;omega) (fun h=>rfl) (fun h=>rfl) (fun h=>by have:=nn h;simp only at *;omega)⟩)
    exact .inr ⟨⟨by have:=L.len;omega,L.sm,L.on⟩,by omega⟩
 ·exact .inr ⟨(lin_step (.inl (xk0 hX)) L).2,by simp only[mxI];split<;>omega⟩
theorem std_x1(hw:0 < w)(hX:-200000 < X/\X < 200000)(hn:4<=n)(S:Std n x0 x1 y0 y1 ps):Std (2 * n) x0 (mnI x1 X) y0 y1 (cutW (gx1 w X) (crx X) ps):=by
 rcases S with ⟨rfl,B⟩|⟨L,z⟩
 ·have b:=B.x
  by_cases h1:x1<=X
  ·rw[cx1_a hw b h1,show mnI x1 X=x1 by simp only[mnI];split<;>omega]
   exact .inl ⟨rfl,B⟩
  ·rw[show mnI x1 X=X by simp only[mnI];split<;>omega]
   by_cases h2:x0 < X
   ·rw[cx1_b hw h2 (by omega)]
    exact .inl ⟨rfl,h2,B.y,B.a,hX.2,B.c,B.d⟩
   ·have nn:∀{v:Int},0<=w * (X - v)->v<=X:=fun h=>by have:=(sc0 hw).mp h;omega
    have L:=box_lin (g:=gx1 w X) (cr:=crx X) B (box_all (le0 hw (show X - x0<=0 by omega)) (le0 hw (show X - x1<=0 by omega)) (le0 hw (show X - x1<=0 by omega)) (le0 hw (show X - x0<=0 by omega))) (.inl ⟨x0,box_all (fun h=>rfl) (fun h=>by have:=nn h;simp only at *;omega) (fun h=>by have:=nn h;simp only at *;omega) (fun h=>rfl)⟩)
    exact .inr ⟨⟨by have:=L.len;omega,L.sm,L.on⟩,by omega⟩
 ·exact .inr ⟨(lin_step (.inl (xk1 hX)) L).2,by simp only[mnI];split<;>omega⟩
theorem std_y0(hw:0 < w)(hX:-200000 < X/\X < 200000)(hn:4<=n)(S:Std n x0 x1 y0 y1 ps):Std (2 * n) x0 x1 (mxI y0 X) y1 (cutW (gy0 w X) (cry X) ps):=by
 rcases S with ⟨rfl,B⟩|⟨L,z⟩
 ·have b:=B.y
  by_cases h1:X<=y0
  ·rw[cy0_a hw b h1,show mxI y0 X=y0 by simp only[mxI];split<;>omega]
   exact .inl ⟨rfl,B⟩
  ·rw[show mxI y0 X=X by simp only[mxI];split<;>omega]
   by_cases h2:X < y1
   ·rw[cy0_b hw (by omega) h2]
    exact .inl ⟨rfl,B.x,h2,B.a,B.b,hX.1,B.d⟩
   ·have nn:∀{v:Int},0<=w * (v - X)->X<=v:=fun h=>by have:=(sc0 hw).mp h;omega
    have L:=box_lin (g:=gy0 w X) (cr:=cry X) B (box_all (le0 hw (show y0 - X<=0 by omega)) (le0 hw (show y0 - X<=0 by omega)) (le0 hw (show y1 - X<=0 by omega)) (le0 hw (show y1 - X<=0 by omega))) (.inr ⟨y1,box_all (fun h=>by have:=nn h;simp only at *;omega) (fun h=>by have:=nn h;simp only at *;omega) (fun h=>rfl) (fun h=>rfl)⟩)
    exact .inr ⟨⟨by have:=L.len;omega,L.sm,L.on⟩,by omega⟩
 ·exact .inr ⟨(lin_step (.inr (yk0 hX)) L).2,by simp only[mxI];split<;>omega⟩
theorem std_y1(hw:0 < w)(hX:-200000 < X/\X < 200000)(hn:4<=n)(S:Std n x0 x1 y0 y1 ps):Std (2 * n) x0 x1 y0 (mnI y1 X) (cutW (gy1 w X) (cry X) ps)∨(cutW (gy1 w X) (cry X) ps=box3 x0 x1 y0 (mnI y1 X)/\BxOk x0 x1 y0 (mnI y1 X)):=by
 rcases S with ⟨rfl,B⟩|⟨L,z⟩
 ·have b:=B.y
  by_cases h1:y1<=X
  ·rw[cy1_a hw b h1,show mnI y1 X=y1 by simp only[mnI];split<;>omega]
   exact .inl (.inl ⟨rfl,B⟩)
  ·rw[show mnI y1 X=X by simp only[mnI];split<;>omega]
   by_cases h2:y0 < X
   ·rw[cy1_b hw h2 (by omega)]
    exact .inr ⟨rfl,B.x,h2,B.a,B.b,B.c,hX.2⟩
   ·have nn:∀{v:Int},0<=w * (X - v)->v<=X:=fun h=>by have:=(sc0 hw).mp h;omega
    have L:=box_lin (g:=gy1 w X) (cr:=cry X) B (box_all (le0 hw (show X - y0<=0 by omega)) (le0 hw (show X - y0<=0 by omega)) (le0 hw (show X - y1<=0 by omega)) (le0 hw (show X - y1<=0 by omega))) (.inr ⟨y0,box_all (fun h=>rfl) (fun h=>rfl) (fun h=>by have:=nn h;simp only at *;omega) (fun h=>by have:=nn h;simp only at *;omega)⟩)
    exact .inl (.inr ⟨⟨by have:=L.len;omega,L.sm,L.on⟩,by omega⟩)
 ·exact .inl (.inr ⟨(lin_step (.inr (yk1 hX)) L).2,by simp only[mnI];split<;>omega⟩)
end
abbrev bxT(b:Int×Int×Int×Int):List T:=(box0 b.1 b.2.1 b.2.2.1 b.2.2.2).map iQ
def interT(b c:Int×Int×Int×Int):List T:=if mxI b.1 c.1 < mnI b.2.1 c.2.1/\mxI b.2.2.1 c.2.2.1 < mnI b.2.2.2 c.2.2.2 then bxT (mxI b.1 c.1,mnI b.2.1 c.2.1,mxI b.2.2.1 c.2.2.1,mnI b.2.2.2 c.2.2.2) else []
abbrev BOk(b:Int×Int×Int×Int):Prop:=BxOk b.1 b.2.1 b.2.2.1 b.2.2.2
def Z0m:SpT:=fun ts Q=>(∃t:T,ts=[t,.lst []]/\Q (.lst []))∨(∃c,ts=[.lst [],.lst (bxT c)]/\BOk c/\Q (.lst []))∨∃b c l,ts=[.lst (l.map iQ),.lst (bxT c)]/\Rot (box0 b.1 b.2.1 b.2.2.1 b.2.2.2) l/\BOk b/\BOk c/\Q (.lst (interT b c))
theorem Z55:∀ts Q,Z0m ts Q->ts.length=2:=fun ts Q h=>by rcases h with ⟨_,rfl,_⟩|⟨_,rfl,_⟩|⟨_,_,_,rfl,_⟩<;>rfl
def Z0C:WS :=
 (sSeq (sSet 5 (w2 rIxTT (wVar 1) (w2 rSubT (wVar 3) (wC (.int 1)))))
  (sSet 2 (wCall Z0q (aCons (wVar 2) (aCons (wComp (iSeq (wVar 2)) (gN 0) tTrue (wCall Z05 (aCons (wVar 1) (aCons (wVar 2) (aCons (wVar 0) aNil)))) 1 [5,4]) aNil)))))
def Z2w:WS :=
 (sSeq (sIf (tNotT (tTruT (wVar 1))) (sRet (wLst aNil)) sNext)
  (sSeq (sSet 2 (wVar 0))
  (sSeq (sFor (iEnum (aCons (wVar 1) aNil)) (gT 2 (gsC (gN 3) (gsC (gN 4) gs0))) Z0C)
  (sRet (wCall Z0G (aCons (wVar 2) aNil))))))
theorem turn_comp{e c:P2}(he:Sm e)(hc:Sm c):∀(r:List P2)(acc:List Int)(x:Slot)(Q:List T->Prop),(∀p∈r,Sm p)->Q ((acc++r.map (trn e c)).map hT) →
  compT (gN 0) tTrue (wCall Z05 (aCons (wVar 1) (aCons (wVar 2) (aCons (wVar 0) aNil)))) (r.map iQ) (acc.map hT) [x,.val (iQ e),.val (iQ c)] Q
 | [],acc,x,Q,_,h=>by
  simp only[List.map_nil,List.append_nil]at h
  simp only[List.map,compT]
  exact h
 | p::r,acc,x,Q,hp,h=>by
  have i1:=turn_comp he hc r (acc++[trn e c p]) (.val (iQ p)) Q (fun q hq=>hp q (List.mem_cons_of_mem _ hq)) (by simpa using h)
  simp only[List.map_append,List.map_cons,List.map_nil]at i1
  simp only[List.map,compT]
  refine⟨fun _=>?_,fun z=>(by cases z)⟩
  show Z05 [iQ e,iQ c,iQ p] (fun t=>compT (gN 0) tTrue (wCall Z05 (aCons (wVar 1) (aCons (wVar 2) (aCons (wVar 0) aNil)))) (r.map iQ) (acc.map hT++[t]) [.val (iQ p),.val (iQ e),.val (iQ c)] Q)
  exact turn_cal he hc (hp p List.mem_cons_self) i1
theorem trn_lim{e c p:P2}(he:Sm e)(hc:Sm c)(hp:Sm p):Lim 60 (trn e c p):=by
 obtain⟨⟨a1,a2⟩,a3,a4⟩:=hp
 obtain⟨⟨b1,b2⟩,b3,b4⟩:=he
 obtain⟨⟨c1,c2⟩,c3,c4⟩:=hc
 have l:∀{i:Int},-1000000 < i->i < 1000000->Lim 6 i:=fun h1 h2=>Lim.of (by show -1000000 < _;omega) (by show _ < 1000000;omega)
 exact(((l (by omega) (by omega)).mul (l (by omega) (by omega))).sub ((l (by omega) (by omega)).mul (l (by omega) (by omega)))).mono (by decide)
theorem both_b0{D:DT}{us:List T}{e c:P2}{g:P2->Int}{cr:P2->P2->P2}{ps:List P2}{k:Int}{s0 s5:Slot}(he:Sm e)(hc:Sm c)(ee:atI us (k - 1)=some (iQ e))(fg:∀p,trn e c p=g p)(sm:∀p∈ps,Sm p)(hl:ps.length<=100)(cx:CxW g cr ps)
  (h:∀s5,D.nx [s0,.val (.lst us),.val (.lst ((cutW g cr ps).map iQ)),.val (.int k),.val (iQ c),s5]) :
  Z0C D [s0,.val (.lst us),.val (.lst (ps.map iQ)),.val (.int k),.val (iQ c),s5]:=by
 unfold Z0C
 obtain⟨W0,hW0⟩:∃W,W=(wCall Z05 (aCons (wVar 1) (aCons (wVar 2) (aCons (wVar 0) aNil)))):=⟨_,rfl⟩
 rw[← hW0]
 walk_at "go"
 rw[ee]
 walk_at "tw"
 rw[hW0]
 refine⟨by rw[List.length_map];omega,?_⟩
 refine turn_comp he hc ps [] _ _ sm ?_
 rw[List.nil_append]
 have eg:trn e c=g:=funext fg
 rw[eg]
 exact⟨ps,g,cr,rfl,hl,fun p hp=>⟨sm p hp,by rw[← fg];exact trn_lim he hc (sm p hp)⟩,cx,h _⟩
theorem boxed{Q:T->Prop}{n:Nat}{x0 x1 y0 y1:Int}{ps l:List P2}(hn:n<=300)(hr:Rot ps l)(S:Std n x0 x1 y0 y1 ps∨(ps=box3 x0 x1 y0 y1/\BxOk x0 x1 y0 y1))(q:Q (.lst (if x0 < x1/\y0 < y1 then bxT (x0,x1,y0,y1) else []))):Z0G [.lst (l.map iQ)] Q:=by
 rcases S with (⟨rfl,B⟩|⟨L,z⟩)|⟨rfl,B⟩
 ·rw[if_pos ⟨B.x,B.y⟩]at q
  exact .inr ⟨x0,x1,y0,y1,⟨l,rfl,by rcases hr.four with h|h|h|h<;>simp[h]⟩,B,q⟩
 ·rw[if_neg z]at q
  exact .inl ⟨l,rfl,by rw[hr.len];exact Nat.le_trans L.len hn,fun p hp=>L.sm p (hr.mem.mp hp),fun a ma b mb c mc=>L.trn a (hr.mem.mp ma) b (hr.mem.mp mb) c (hr.mem.mp mc),q⟩
 ·rw[if_pos ⟨B.x,B.y⟩]at q
  exact .inr ⟨x0,x1,y0,y1,⟨l,rfl,by rcases hr.four with h|h|h|h<;>simp[h]⟩,B,q⟩
theorem both_main{Q:T->Prop}{ps l:List P2}{x0 x1 y0 y1:Int}{c:Int×Int×Int×Int}(hr:Rot ps l)(S:Std 4 x0 x1 y0 y1 ps)(C:BOk c)(q:Q (.lst (if mxI x0 c.1 < mnI x1 c.2.1/\mxI y0 c.2.2.1 < mnI y1 c.2.2.2 then bxT (mxI x0 c.1,mnI x1 c.2.1,mxI y0 c.2.2.1,mnI y1 c.2.2.2) else []))) :
  Z2w {nx:=fun _=>Q .non,rt:=Q} (startT 6 [.lst (l.map iQ),.lst (bxT c)]):=by
 obtain⟨X0,X1,Y0,Y1⟩:=c
 obtain⟨hx,hy,b1,b2,b3,b4⟩:=C
 simp only at hx hy b1 b2 b3 b4 q
 have s00:Sm (X0,Y0):=⟨⟨by show -200000 < X0;omega,by show X0 < 200000;omega⟩,by show -200000 < Y0;omega,by show Y0 < 200000;omega⟩
 have s10:Sm (X1,Y0):=⟨⟨by show -200000 < X1;omega,by show X1 < 200000;omega⟩,by show -200000 < Y0;omega,by show Y0 < 200000;omega⟩
 have s11:Sm (X1,Y1):=⟨⟨by show -200000 < X1;omega,by show X1 < 200000;omega⟩,by show -200000 < Y1;omega,by show Y1 < 200000;omega⟩
 have s01:Sm (X0,Y1):=⟨⟨by show -200000 < X0;omega,by show X0 < 200000;omega⟩,by show -200000 < Y1;omega,by show Y1 < 200000;omega⟩
 have wx:0 < X1 - X0:=by omega
 have wy:0 < Y1 - Y0:=by omega
 have f0:∀p,trn (X0,Y1) (X0,Y0) p=gx0 (Y1 - Y0) X0 p:=fun p=>by simp only[trn,gx0];grind
 have f1:∀p,trn (X0,Y0) (X1,Y0) p=gy0 (X1 - X0) Y0 p:=fun p=>by simp only[trn,gy0];grind
 have f2:∀p,trn (X1,Y0) (X1,Y1) p=gx1 (Y1 - Y0) X1 p:=fun p=>by simp only[trn,gx1];grind
 have f3:∀p,trn (X1,Y1) (X0,Y1) p=gy1 (X1 - X0) Y1 p:=fun p=>by simp only[trn,gy1];grind
 have r0:-200000 < X0/\X0 < 200000:=⟨by omega,by omega⟩
 have r1:-200000 < X1/\X1 < 200000:=⟨by omega,by omega⟩
 have r2:-200000 < Y0/\Y0 < 200000:=⟨by omega,by omega⟩
 have r3:-200000 < Y1/\Y1 < 200000:=⟨by omega,by omega⟩
 have r1':=hr.cut (f:=gx0 (Y1 - Y0) X0) (cr:=crx X0)
 have r2':=r1'.cut (f:=gy0 (X1 - X0) Y0) (cr:=cry Y0)
 have r3':=r2'.cut (f:=gx1 (Y1 - Y0) X1) (cr:=crx X1)
 have r4':=r3'.cut (f:=gy1 (X1 - X0) Y1) (cr:=cry Y1)
 have S1:=std_x0 wy r0 (by decide) S
 have S2:=std_y0 wx r2 (by decide) S1
 have S3:=std_x1 wy r1 (by decide) S2
 have S4:=std_y1 wx r3 (by decide) S3
 obtain⟨SP,hSP⟩:∃S,S=Z0G:=⟨_,rfl⟩
 have cp:∀{ps l:List P2},Rot ps l->(Std (2 * (2 * (2 * (2 * 4)))) (mxI x0 X0) (mnI x1 X1) (mxI y0 Y0) (mnI y1 Y1) ps∨(ps=box3 (mxI x0 X0) (mnI x1 X1) (mxI y0 Y0) (mnI y1 Y1)/\BxOk (mxI x0 X0) (mnI x1 X1) (mxI y0 Y0) (mnI y1 Y1)))->SP [.lst (l.map iQ)] Q:=fun hr S=>by
  rw[hSP]
  exact boxed (by decide) hr S q
 unfold Z2w
 obtain⟨W0,hW0⟩:∃W,W=Z0C:=⟨_,rfl⟩
 rw[← hW0,← hSP]
 walk_at "go"
 refine Eq.mpr (congrFun (congrFun hW0 _) _) ?_
 refine both_b0 (ps:=l) (k:=0) (e:=(X0,Y1)) (c:=(X0,Y0)) s01 s00 rfl f0 (fun p hp=>std_sm S p (hr.mem.mp hp)) (by rw[hr.len];exact std_len S (by decide)) (hr.cx (std_cx (.inl (xk0 r0)) S)) fun s5=>?_
 walk_at "go"
 refine Eq.mpr (congrFun (congrFun hW0 _) _) ?_
 refine both_b0 (k:=1) (e:=(X0,Y0)) (c:=(X1,Y0)) s00 s10 rfl f1 (fun p hp=>std_sm S1 p (r1'.mem.mp hp)) (by rw[r1'.len];exact std_len S1 (by decide)) (r1'.cx (std_cx (.inr (yk0 r2)) S1)) fun s5=>?_
 walk_at "go"
 refine Eq.mpr (congrFun (congrFun hW0 _) _) ?_
 refine both_b0 (k:=2) (e:=(X1,Y0)) (c:=(X1,Y1)) s10 s11 rfl f2 (fun p hp=>std_sm S2 p (r2'.mem.mp hp)) (by rw[r2'.len];exact std_len S2 (by decide)) (r2'.cx (std_cx (.inl (xk1 r1)) S2)) fun s5=>?_
 walk_at "go"
 refine Eq.mpr (congrFun (congrFun hW0 _) _) ?_
 refine both_b0 (k:=3) (e:=(X1,Y1)) (c:=(X0,Y1)) s11 s01 rfl f3 (fun p hp=>std_sm S3 p (r3'.mem.mp hp)) (by rw[r3'.len];exact std_len S3 (by decide)) (r3'.cx (std_cx (.inr (yk1 r3)) S3)) fun s5=>?_
 walk_at "go"
 exact cp r4' S4
theorem Z5o:∀ts Q,Z0m ts Q->Z2w {nx:=fun _=>Q .non,rt:=Q} (startT 6 ts):=by
 rintro _ Q (⟨t,rfl,q⟩|⟨c,rfl,C,q⟩|⟨b,c,l,rfl,hr,B,C,q⟩)
 ·unfold Z2w
  obtain⟨W0,hW0⟩:∃W,W=Z0C:=⟨_,rfl⟩
  rw[← hW0]
  walk_at "go"
  exact q
 ·refine both_main (ps:=[]) (l:=[]) (x0:=0) (x1:=0) (y0:=0) (y1:=0) (Rot.refl _) (.inr ⟨⟨by simp,fun p hp=>absurd hp (by simp),.inl ⟨0,fun p hp=>absurd hp (by simp)⟩⟩,by decide⟩) C ?_
  rw[if_neg (by simp only[mxI,mnI];split<;>split<;>omega)]
  exact q
 ·exact both_main hr (.inl ⟨rfl,B⟩) C q
def cntR(f:Int->Bool):Nat->Int
 | 0=>0
 | n + 1=>cntR f n + (bif f n then 1 else 0)
def cnt(f:Int->Int->Bool)(h:Nat):Nat->Int
 | 0=>0
 | n + 1=>cnt f h n + cntR (f n) h
theorem cntR_bd(f:Int->Bool):∀n,0<=cntR f n/\cntR f n<=n
 | 0=>⟨by simp[cntR],by simp[cntR]⟩
 | n + 1=>by
  have:=cntR_bd f n
  simp only[cntR]
  cases f n<;>simp<;>omega
theorem cnt_bd(f:Int->Int->Bool)(h:Nat):∀n,0<=cnt f h n/\cnt f h n<=n * h
 | 0=>⟨by simp[cnt],by simp[cnt]⟩
 | n + 1=>by
  have:=cnt_bd f h n
  have:=cntR_bd (f n) h
  simp only[cnt]
  rw[show (((n + 1:Nat):Int) * h)=n * h + h by grind]
  omega
theorem cntR_or{f g:Int->Bool}:∀n,cntR (fun j=>f j||g j) n + cntR (fun j=>f j&&g j) n=cntR f n + cntR g n
 | 0=>rfl
 | n + 1=>by
  have:=cntR_or (f:=f) (g:=g) n
  simp only[cntR]
  cases f n<;>cases g n<;>simp<;>omega
theorem cnt_or{f g:Int->Int->Bool}{h:Nat}:∀n,cnt (fun i j=>f i j||g i j) h n + cnt (fun i j=>f i j&&g i j) h n=cnt f h n + cnt g h n
 | 0=>rfl
 | n + 1=>by
  have:=cnt_or (f:=f) (g:=g) (h:=h) n
  have:=cntR_or (f:=f n) (g:=g n) h
  simp only[cnt]
  omega
theorem cntR_not{f:Int->Bool}:∀n:Nat,cntR (fun j=>!f j) n=n - cntR f n
 | 0=>rfl
 | n + 1=>by
  have:=cntR_not (f:=f) n
  simp only[cntR]
  cases f n<;>simp<;>omega
theorem cnt_not{f:Int->Int->Bool}{h:Nat}:∀n:Nat,cnt (fun i j=>!f i j) h n=n * h - cnt f h n
 | 0=>by simp[cnt]
 | n + 1=>by
  have:=cnt_not (f:=f) (h:=h) n
  have:=cntR_not (f:=f n) h
  simp only[cnt]
  rw[show (((n + 1:Nat):Int) * h)=n * h + h by grind]
  omega
theorem cntR_congr{f g:Int->Bool}:∀n:Nat,(∀k:Nat,k < n->f k=g k)->cntR f n=cntR g n
 | 0,_=>rfl
 | n + 1,e=>by
  simp only[cntR]
  rw[cntR_congr n fun k hk=>e k (by omega),e n (by omega)]
theorem cnt_congr{f g:Int->Int->Bool}{h:Nat}:∀n:Nat,(∀i j:Nat,i < n->j < h->f i j=g i j)->cnt f h n=cnt g h n
 | 0,_=>rfl
 | n + 1,e=>by
  simp only[cnt]
  rw[cnt_congr n fun i j hi hj=>e i j (by omega) hj,cntR_congr h fun j hj=>e n j (by omega) hj]
theorem cntR_box{a b:Int}(ha:0<=a)(hab:a<=b):∀n:Nat,cntR (fun j=>decide (a<=j/\j < b)) n=(if (n:Int)<=a then 0 else if (n:Int)<=b then n - a else b - a)
 | 0=>by simp[cntR,ha]
 | n + 1=>by
  have ih:=cntR_box ha hab n
  simp only[cntR,ih,Bool.cond_decide]
  split<;>split<;>(try split)<;>(try split)<;>omega
theorem cntR_no:∀n:Nat,cntR (fun _=>false) n=0
 | 0=>rfl
 | n + 1=>by simp[cntR,cntR_no n]
abbrev BX:=Int×Int×Int×Int
def inB(b:BX)(i j:Int):Bool:=decide (b.1<=i/\i < b.2.1/\b.2.2.1<=j/\j < b.2.2.2)
def szB(b:BX):Int:=if b.1 < b.2.1/\b.2.2.1 < b.2.2.2 then (b.2.1 - b.1) * (b.2.2.2 - b.2.2.1) else 0
structure InF(W H:Nat)(b:BX):Prop where
 x0:0<=b.1
 x1:b.2.1<=W
 y0:0<=b.2.2.1
 y1:b.2.2.2<=H
theorem cnt_cols{a b:Int}{k:Int}{h:Nat}{g:Int->Bool}(hk:cntR g h=k)(ha:0<=a)(hab:a<=b):∀n:Nat,cnt (fun i j=>decide (a<=i/\i < b)&&g j) h n=(if (n:Int)<=a then 0 else if (n:Int)<=b then (n - a) * k else (b - a) * k)
 | 0=>by simp[cnt,ha]
 | n + 1=>by
  have ih:=cnt_cols hk ha hab n
  simp only[cnt,ih]
  by_cases hn:a<=n/\(n:Int) < b
  ·have e:cntR (fun j=>decide (a<=(n:Int)/\(n:Int) < b)&&g j) h=k:=by
    rw[← hk]
    exact cntR_congr h fun j _=>by rw[decide_eq_true hn];rfl
   rw[e]
   have q:(((n + 1:Nat):Int) - a) * k=(n - a) * k + k:=by grind
   split<;>split<;>(try split)<;>(try split)<;>first|omega|grind
  ·have e:cntR (fun j=>decide (a<=(n:Int)/\(n:Int) < b)&&g j) h=0:=by
    rw[← cntR_no h]
    exact cntR_congr h fun j _=>by rw[decide_eq_false hn];rfl
   rw[e]
   have q:(n:Int)=b->((n:Int) - a) * k=(b - a) * k:=fun e=>by rw[e]
   have q0:b=a->(b - a) * k=0:=fun e=>by rw[e,Int.sub_self,Int.zero_mul]
   split<;>split<;>(try split)<;>(try split)<;>first|omega|(have:=q (by omega);omega)|(have:=q0 (by omega);omega)
theorem cnt_box{W H:Nat}{b:BX}(F:InF W H b):cnt (inB b) H W=szB b:=by
 obtain⟨a,b,c,d⟩:=b
 obtain⟨h1,h2,h3,h4⟩:=F
 simp only at h1 h2 h3 h4
 have ef:∀i j:Int,inB (a,b,c,d) i j=(decide (a<=i/\i < b)&&decide (c<=j/\j < d)):=fun i j=>by
  unfold inB
  rw[← Bool.decide_and]
  exact decide_eq_decide.mpr (by simp only;omega)
 rw[cnt_congr (g:=fun i j=>decide (a<=i/\i < b)&&decide (c<=j/\j < d)) W fun i j _ _=>ef i j]
 unfold szB
 by_cases n:a < b/\c < d
 ·rw[if_pos n]
  rw[cnt_cols (k:=d - c) (by rw[cntR_box h3 (by omega)];split<;>(try split)<;>omega) h1 (by omega)]
  split
  ·omega
  ·split
   ·have:(W:Int)=b:=by omega
    rw[this]
   ·rfl
 ·rw[if_neg n]
  have:∀n':Nat,cnt (fun _ _=>false) H n'=0:=fun n'=>by
   induction n' with
   | zero=>rfl
   | succ m ih=>simp only[cnt,ih,cntR_no];rfl
  rw[← this W]
  refine cnt_congr W fun i j _ _=>?_
  rw[← Bool.decide_and]
  exact decide_eq_false (by omega)
def covB(bs:List BX)(i j:Int):Bool:=bs.any fun b=>inB b i j
abbrev meetB(b c:BX):BX:=(mxI b.1 c.1,mnI b.2.1 c.2.1,mxI b.2.2.1 c.2.2.1,mnI b.2.2.2 c.2.2.2)
theorem inB_meet(b c:BX)(i j:Int):inB (meetB b c) i j=(inB c i j&&inB b i j):=by
 unfold inB
 rw[← Bool.decide_and]
 refine decide_eq_decide.mpr ?_
 simp only[meetB,mxI,mnI]
 split<;>split<;>split<;>split<;>omega
theorem InF.meet{W H:Nat}{b c:BX}(B:InF W H b)(C:InF W H c):InF W H (meetB b c):=by
 obtain⟨h1,h2,h3,h4⟩:=B
 obtain⟨g1,g2,g3,g4⟩:=C
 refine⟨?_,?_,?_,?_⟩<;>simp only[meetB,mxI,mnI]<;>split<;>omega
theorem cov_meet(b:BX)(bs:List BX)(i j:Int):covB (bs.map (meetB b)) i j=(covB bs i j&&inB b i j):=by
 induction bs with
 | nil=>rfl
 | cons c r ih =>
  unfold covB at ih ⊢
  rw[List.map_cons,List.any_cons,List.any_cons,ih,inB_meet]
  cases inB c i j<;>cases inB b i j<;>simp
theorem joint_step{W H:Nat}{bs:List BX}{b:BX}(F:InF W H b):cnt (covB bs) H W + (szB b - cnt (covB (bs.map (meetB b))) H W)=cnt (covB (bs++[b])) H W:=by
 have e1:cnt (covB (bs++[b])) H W=cnt (fun i j=>covB bs i j||inB b i j) H W:=cnt_congr W fun i j _ _=>by unfold covB;simp
 have e2:cnt (covB (bs.map (meetB b))) H W=cnt (fun i j=>covB bs i j&&inB b i j) H W:=cnt_congr W fun i j _ _=>cov_meet b bs i j
 have e3:=cnt_or (f:=covB bs) (g:=inB b) (h:=H) W
 rw[e1,e2,← cnt_box F]
 omega
structure Face(W H:Nat)(u v:Int):Prop where
 up:0 < u
 vp:0 < v
 ew:u * W=2520
 eh:v * H=2520
 w1:W<=10
 h1:H<=10
abbrev scB(u v:Int)(b:BX):BX:=(b.1 * u,b.2.1 * u,b.2.2.1 * v,b.2.2.2 * v)
def ptB(u v:Int)(b:BX):T:=.lst (if b.1 < b.2.1/\b.2.2.1 < b.2.2.2 then bxT (scB u v b) else [])
theorem mulW{u a b:Int}(hu:0 < u):a * u < b * u ↔ a < b:=by
 constructor
 ·exact fun h=>Int.lt_of_mul_lt_mul_right h (Int.le_of_lt hu)
 ·exact fun h=>Int.mul_lt_mul_of_pos_right h hu
theorem mxW{u a b:Int}(hu:0 < u):mxI (a * u) (b * u)=mxI a b * u:=by
 have:=mulW (a:=b) (b:=a) hu
 simp only[mxI]
 split<;>split<;>first|rfl|omega
theorem mnW{u a b:Int}(hu:0 < u):mnI (a * u) (b * u)=mnI a b * u:=by
 have:=mulW (a:=b) (b:=a) hu
 simp only[mnI]
 split<;>split<;>first|rfl|omega
theorem mulL{u a b:Int}(hu:0 < u)(h:a<=b):a * u<=b * u:=Int.mul_le_mul_of_nonneg_right h (Int.le_of_lt hu)
theorem bok_sc{W H:Nat}{u v:Int}{b:BX}(F:Face W H u v)(I:InF W H b)(n:b.1 < b.2.1/\b.2.2.1 < b.2.2.2):BOk (scB u v b):=by
 obtain⟨h1,h2,h3,h4⟩:=I
 have a1:=mulL F.up h1
 have a2:=mulL F.up h2
 have a3:=mulL F.vp h3
 have a4:=mulL F.vp h4
 have a5:=(mulW F.up).mpr n.1
 have a6:=(mulW F.vp).mpr n.2
 have e1:=F.ew
 have e2:=F.eh
 rw[Int.mul_comm]at e1 e2
 refine⟨a5,a6,?_,?_,?_,?_⟩<;>simp only<;>omega
theorem both_cal{W H:Nat}{u v:Int}{b c:BX}{Q:T->Prop}(F:Face W H u v)(B:InF W H b)(C:InF W H c)(q:Q (ptB u v (meetB b c))):Z0m [ptB u v b,ptB u v c] Q:=by
 by_cases nc:c.1 < c.2.1/\c.2.2.1 < c.2.2.2
 ·by_cases nb:b.1 < b.2.1/\b.2.2.1 < b.2.2.2
  ·unfold ptB at q ⊢
   rw[if_pos nc,if_pos nb]
   refine .inr (.inr ⟨_,_,_,rfl,Rot.refl _,bok_sc F B nb,bok_sc F C nc,?_⟩)
   unfold interT
   simp only[mxW F.up,mnW F.up,mxW F.vp,mnW F.vp,mulW F.up,mulW F.vp]
   exact q
  ·unfold ptB at q ⊢
   rw[if_pos nc,if_neg nb]
   rw[if_neg (by simp only[mxI,mnI];split<;>split<;>split<;>split<;>omega)]at q
   exact .inr (.inl ⟨_,rfl,bok_sc F C nc,q⟩)
 ·unfold ptB at q ⊢
  rw[if_neg nc]
  rw[if_neg (by simp only[mxI,mnI];split<;>split<;>split<;>split<;>omega)]at q
  exact .inl ⟨_,rfl,q⟩
theorem face_ne{W H:Nat}{u v:Int}(F:Face W H u v):((W:Int) * H)≠0/\0 < (W:Int) * H/\Lim 3 ((W:Int) * H):=by
 have e1:=F.ew
 have e2:=F.eh
 have w0:(0:Int) < W:=by
  rcases Nat.eq_zero_or_pos W with z|z
  ·rw[z]at e1;simp at e1
  ·omega
 have h0:(0:Int) < H:=by
  rcases Nat.eq_zero_or_pos H with z|z
  ·rw[z]at e2;simp at e2
  ·omega
 have p:=Int.mul_pos w0 h0
 have l1:=F.w1
 have l2:=F.h1
 have:(W:Int) * H<=10 * 10:=Int.mul_le_mul (by omega) (by omega) (by omega) (by omega)
 exact⟨by omega,p,Lim.of (by show -1000 < _;omega) (by show _ < 1000;omega)⟩
theorem share_cal{W H:Nat}{u v:Int}{b:BX}{Q:T->Prop}(F:Face W H u v)(B:InF W H b)(q:Q (fr (szB b) (W * H))):Z0B [ptB u v b] Q:=by
 have nz:=(face_ne F).1
 have l6:Lim 30 (2520:Int):=Lim.of (by decide) (by decide)
 unfold ptB
 unfold szB at q
 by_cases nb:b.1 < b.2.1/\b.2.2.1 < b.2.2.2
 ·rw[if_pos nb]at q ⊢
  have K:=bok_sc F B nb
  refine⟨2520,box0 _ _ _ _,rfl,⟨by decide,l6,by simp,fun p hp=>?_⟩,?_⟩
  ·have:=sm_lim (box_sm K p hp)
   exact⟨this.1.mono (by decide),this.2.mono (by decide)⟩
  ·have ea:∀x0 x1 y0 y1:Int,area2 (box0 x0 x1 y0 y1)=2 * ((x1 - x0) * (y1 - y0)):=fun x0 x1 y0 y1=>by
    simp only[area2,box0,List.getLastD,chain,cr]
    grind
   rw[ea,fr_eq (n':=(b.2.1 - b.1) * (b.2.2.2 - b.2.2.1)) (m':=W * H) (by decide) nz ?_]
   ·exact q
   ·have e1:=F.ew
    have e2:=F.eh
    generalize (W:Int)=w at *
    generalize (H:Int)=h at *
    have:2 * ((b.2.1 * u - b.1 * u) * (b.2.2.2 * v - b.2.2.1 * v)) * (w * h)=2 * ((b.2.1 - b.1) * (b.2.2.2 - b.2.2.1)) * ((u * w) * (v * h)):=by grind
    rw[this,e1,e2]
    grind
 ·rw[if_neg nb]at q ⊢
  refine⟨2520,[],rfl,⟨by decide,l6,by simp,fun p hp=>absurd hp (by simp)⟩,?_⟩
  rw[fr_eq (n':=0) (m':=W * H) (by decide) nz (by simp[area2])]
  exact q
def Z0a:Nat->SpT
 | 0=>fun _ _=>False
 | n + 1=>fun ts Q=>∃(W H:Nat) (u v:Int) (bs:List BX),ts=[.lst (bs.map (ptB u v))]/\Face W H u v/\bs.length<=n/\n<=20/\(∀b∈bs,InF W H b)/\Q (fr (cnt (covB bs) H W) (W * H))
abbrev Z1i:SpT:=Z0a 8
theorem len0_P_joint_share:∀ts Q,Z0a 0 ts Q->ts.length=1:=fun ts Q h=>h.elim
theorem no_P_joint_share:∀ts Q,Z0a 0 ts Q->False:=fun ts Q h=>h
theorem Z3G:∀n ts Q,Z0a n ts Q->ts.length=1
 | 0,ts,Q,h=>h.elim
 | n + 1,ts,Q,h=>by obtain⟨_,_,_,_,_,e,_⟩:=h;subst e;rfl
def Z0c(S:SpT):WS :=
 (sSeq (sSet 4 (wComp (iSeq (wSl (wVar 0) wo0 (wo (wVar 2)))) (gN 0) tTrue (wCall Z0m (aCons (wVar 1) (aCons (wVar 0) aNil))) 1 [3]))
  (sSet 1 (wCall Z03 (aCons (wVar 1) (aCons (wCall Z00 (aCons (wCall Z0B (aCons (wVar 3) aNil)) (aCons (wCall S (aCons (wVar 4) aNil)) aNil))) aNil)))))
def Z2x(S:SpT):WS :=
 (sSeq (sSet 1 (wTup (aCons (wC (.int 0)) (aCons (wC (.int 1)) aNil))))
  (sSeq (sFor (iEnum (aCons (wVar 0) aNil)) (gT 2 (gsC (gN 2) (gsC (gN 3) gs0))) (Z0c S))
  (sRet (wVar 1))))
theorem comp_map{α:Type}{f g:α->T}{W:WE}{E:List Slot}:∀(l:List α)(acc:List T)(x:Slot)(Q:List T->Prop),(∀a∈l,∀Q:T->Prop,Q (g a)->W (.val (f a)::E) Q)->Q (acc++l.map g)->compT (gN 0) tTrue W (l.map f) acc (x::E) Q
 | [],acc,x,Q,_,h=>by
  simp only[List.map_nil,List.append_nil]at h
  simp only[List.map,compT]
  exact h
 | a::l,acc,x,Q,hW,h=>by
  have i1:=comp_map (f:=f) (g:=g) (W:=W) (E:=E) l (acc++[g a]) (.val (f a)) Q (fun b hb=>hW b (List.mem_cons_of_mem _ hb)) (by simpa using h)
  simp only[List.map,compT]
  refine⟨fun _=>?_,fun z=>(by cases z)⟩
  exact hW a List.mem_cons_self _ i1
theorem cut_take{α:Type}{f:α->T}{l:List α}{i:Nat}(h:i<=l.length):cutT (l.map f) none (some (i:Int))=(l.take i).map f:=by
 unfold cutT
 rw[HT.sIx_none,HT.sIx_nat,List.length_map,List.drop_zero,Nat.sub_zero,← List.map_take,Nat.min_eq_left h]
theorem cnt_lim{W H:Nat}{u v:Int}{f:Int->Int->Bool}(F:Face W H u v):Lim 3 (cnt f H W):=by
 have:=cnt_bd f H W
 have l:=(face_ne F).2.2
 exact l.le (by omega)
theorem sz_lim{W H:Nat}{u v:Int}{b:BX}(F:Face W H u v)(B:InF W H b):Lim 3 (szB b):=by
 rw[← cnt_box B]
 exact cnt_lim F
theorem joint_loop{D:DT}{n:Nat}{W H:Nat}{u v:Int}{bs:List BX}(F:Face W H u v)(hn:bs.length<=n)(h20:n<=20)(I:∀b∈bs,InF W H b)(q:∀s2 s3 s4,D.nx [.val (.lst (bs.map (ptB u v))),.val (fr (cnt (covB bs) H W) (W * H)),s2,s3,s4]) :
  ∀(r:List BX)(i:Nat)(s2 s3 s4:Slot),bs.drop i=r->i<=bs.length->forT (gT 2 (gsC (gN 2) (gsC (gN 3) gs0))) (Z0c (Z0a n)) (enumT i (r.map (ptB u v))) D [.val (.lst (bs.map (ptB u v))),.val (fr (cnt (covB (bs.take i)) H W) (W * H)),s2,s3,s4]
 | [],i,s2,s3,s4,e,hi=>by
  have:bs.take i=bs:=List.take_of_length_le (List.drop_eq_nil_iff.mp e)
  rw[this]
  simp only[List.map,enumT,forT]
  exact q _ _ _
 | b::r,i,s2,s3,s4,e,hi=>by
  obtain⟨e1,e2,mb⟩:=drop_cons e
  have hi':i < bs.length:=(List.getElem?_eq_some_iff.mp e1).1
  obtain⟨nz,p0,lw⟩:=face_ne F
  have et:bs.take (i + 1)=bs.take i++[b]:=by rw[List.take_add_one,e1];rfl
  have ih:=fun s2 s3 s4=>joint_loop (D:=D) F hn h20 I q r (i + 1) s2 s3 s4 e2 (by omega)
  rw[et,← joint_step (I b mb)]at ih
  simp only[List.map_cons,enumT,forT]
  generalize forT (gT 2 (gsC (gN 2) (gsC (gN 3) gs0))) (Z0c (Z0a n)) (enumT (i + 1) (r.map (ptB u v))) D=F' at ih ⊢
  have lc:=cnt_lim (f:=covB (bs.take i)) F
  have lj:=cnt_lim (f:=covB ((bs.take i).map (meetB b))) F
  have ls:=sz_lim F (I b mb)
  unfold Z0c
  obtain⟨SB,hSB⟩:∃S,S=Z0m:=⟨_,rfl⟩
  rw[← hSB]
  walk_at "tw"
  rw[cut_take hi]
  refine⟨by rw[List.length_map,List.length_take];omega,?_⟩
  refine comp_map (g:=fun c=>ptB u v (meetB b c)) (bs.take i) [] _ _ (fun c hc R hR=>?_) ?_
  ·rw[hSB]
   exact both_cal F (I b mb) (I c (List.mem_of_mem_take hc)) hR
  rw[List.nil_append]
  refine share_cal F (I b mb) ?_
  cases n with
  | zero=>omega
  | succ n =>
   refine⟨W,H,u,v,(bs.take i).map (meetB b),by rw[List.map_map];rfl,F,by rw[List.length_map,List.length_take];omega,by omega,fun c hc=>?_,?_⟩
   ·obtain⟨d,hd,rfl⟩:=List.mem_map.mp hc
    exact(I b mb).meet (I d (List.mem_of_mem_take hd))
   ·refine⟨_,_,_,_,rfl,⟨nz,nz,ls.mono (by decide),lw.mono (by decide),lj.mono (by decide),lw.mono (by decide)⟩,?_⟩
    rw[fr_sub1 nz]
    refine⟨_,_,_,_,rfl,⟨nz,nz,lc.mono (by decide),lw.mono (by decide),(ls.sub lj).mono (by decide),lw.mono (by decide)⟩,?_⟩
    rw[fr_sum1 nz]
    exact ih _ _ _
theorem Z49:∀n ts Q,Z0a (n + 1) ts Q->Z2x (Z0a n) {nx:=fun _=>Q .non,rt:=Q} (startT 5 ts):=by
 rintro n _ Q ⟨W,H,u,v,bs,rfl,F,hl,h20,I,q⟩
 have nz:=(face_ne F).1
 unfold Z2x
 obtain⟨W0,hW0⟩:∃W,W=Z0c (Z0a n):=⟨_,rfl⟩
 rw[← hW0]
 walk_at "tw"
 rw[hW0,show (T.tup [T.int 0,T.int 1])=fr (cnt (covB (bs.take 0)) H W) (W * H) from ?_]
 ·exact joint_loop F hl h20 I (fun s2 s3 s4=>q) bs 0 _ _ _ rfl (Nat.zero_le _)
 ·have:cnt (covB (bs.take 0)) H W=0:=by
   have z:∀n':Nat,cnt (fun _ _=>false) H n'=0:=fun n'=>by
    induction n' with
    | zero=>rfl
    | succ m ih=>simp only[cnt,ih,cntR_no];rfl
   rw[← z W]
   exact cnt_congr W fun i j _ _=>rfl
  rw[this]
  exact fr_zero nz
abbrev Pl:=Tr×Tr×Tr
abbrev plT(p:Pl):T:=ptl p.1 p.2.1 p.2.2
abbrev PlLim(k:Nat)(p:Pl):Prop:=LimT k p.1/\LimT k p.2.1/\LimT k p.2.2
theorem PlLim.mono{k k':Nat}{p:Pl}(h:PlLim k p)(hk:k<=k'):PlLim k' p:=⟨h.1.mono hk,h.2.1.mono hk,h.2.2.mono hk⟩
abbrev Th:=Str×Pl×Option Tr
def thT:Th->T
 | (n,p,none)=>.tup [.str n,plT p]
 | (n,p,some t)=>.tup [.str n,plT p,trT t]
abbrev sT(e:Int×Tr):T:=.tup [.int e.1,trT e.2]
abbrev SOk(a:Str):Prop:=PyData.strOk a=true
theorem eqOk_str{a b:Str}(ha:SOk a)(hb:SOk b):EqOk (.str a) (.str b):=by
 refine⟨by simpa [plain,pd,PyData.canLay0] using ha,by simpa [plain,pd,PyData.canLay0] using hb,by simp[dep,pd,PyData.depth]⟩
theorem eqT_str(a b:Str):eqT (.str a) (.str b)=decide (a=b):=by
 rw[eqTf]
 by_cases h:a=b
 ·subst h;simp
 ·rw[decide_eq_false h];exact beq_eq_false_iff_ne.mpr h
abbrev sunAt(sun:List (Int×Tr))(h:Int):Option (Int×Tr):=sun.find? fun e=>decide (e.1=h)
abbrev noHour(h:Int):T:=.exf "NoHour" "hour" (.int h)
def Z0w:SpX:=fun R ts Q=>∃(sun:List (Int×Tr)) (h:Int),ts=[.lst (sun.map sT),.int h]/\h.natAbs.log2 < 1920/\(match sunAt sun h with|some e=>Q (trT e.2)|none=>R (noHour h))
theorem Z3H:∀R ts Q,Z0w R ts Q->ts.length=2:=fun R ts Q ⟨_,_,e,_⟩=>by subst e;rfl
def Z08(R:T->Prop):WS :=
 (sIf (tCmpT cEqT (w2 rIxTT (wVar 2) (wC (.int 0))) (wVar 1)) (sRet (w2 rIxTT (wVar 2) (wC (.int 1)))) sNext)
def Z0j(R:T->Prop):WS :=
 (sRaiseF R "NoHour" "hour" (wVar 1))
def Z2g(R:T->Prop):WS :=
 (sSeq (sIf (tVal (wCall Z0M (aCons (wVar 1) aNil))) (sFor (iSeq (wVar 0)) (gN 2) (Z08 R)) sNext)
  (Z0j R))
theorem dat_loop{R Q:T->Prop}{x:Slot}{g:Int}:∀(rs:List (Int×Tr))(s2:Slot)(N:List Slot->Prop),(match sunAt rs g with|some r=>Q (trT r.2)|none=>∀s2,N [x,.val (.int g),s2]) →
  forT (gN 2) (Z08 R) (rs.map sT) {nx:=N,rt:=Q} [x,.val (.int g),s2]
 | [],s2,N,h=>by
  simp only[List.map,forT]
  exact h s2
 | r::rs,s2,N,h=>by
  have ih:=fun s2=>dat_loop (R:=R) (Q:=Q) (x:=x) (g:=g) rs s2 N
  simp only[List.map,forT]
  generalize forT (gN 2) (Z08 R) (rs.map sT) {nx:=N,rt:=Q}=F at ih ⊢
  unfold Z08
  walk_at "go"
  refine⟨fun c=>?_,fun c=>?_⟩
  ·have e:sunAt (r::rs) g=some r:=List.find?_cons_of_pos c
   rw[e]at h
   walk_at "go"
   exact h
  ·have e:sunAt (r::rs) g=sunAt rs g:=List.find?_cons_of_neg (by rw[c];exact Bool.false_ne_true)
   rw[e]at h
   exact ih _ h
theorem Z3W:∀R ts Q,Z0w R ts Q->Z2g R {nx:=fun _=>Q .non,rt:=Q} (startT 3 ts):=by
 rintro R _ Q ⟨rs,g,rfl,lg,h⟩
 unfold Z2g
 obtain⟨W0,hW0⟩:∃W,W=Z08 R:=⟨_,rfl⟩
 obtain⟨W1,hW1⟩:∃W,W=Z0j R:=⟨_,rfl⟩
 rw[← hW0,← hW1]
 walk_at "go"
 refine⟨_,rfl,trivial,?_⟩
 walk_at "tw"
 rw[hW0]
 refine⟨fun _=>dat_loop rs _ _ ?_,fun z=>by cases z⟩
 cases q:sunAt rs g with
 | some r=>rw[q]at h;exact h
 | none =>
  rw[q]at h
  intro s2
  rw[hW1]
  unfold Z0j
  walk_at "go"
  exact h
def Z2p:SpX:=fun R ts Q=>∃(sun:List (Int×Tr)) (h:Int),ts=[.lst (sun.map sT),.int h]/\h.natAbs.log2 < 1920/\(match sunAt sun h with|some e=>Q (.bl (decide (e.2.2.2 > 0)))|none=>R (noHour h))
theorem Z5y:∀R ts Q,Z2p R ts Q->ts.length=2:=fun R ts Q ⟨_,_,e,_⟩=>by subst e;rfl
def Z4l(R:T->Prop):WS :=
 (sRet (wCmp cGtT (w2 rIxTT (wCall (Z0w R) (aCons (wVar 0) (aCons (wVar 1) aNil))) (wC (.int 2))) (wC (.int 0))))
theorem Z5M:∀R ts Q,Z2p R ts Q->Z4l R {nx:=fun _=>Q .non,rt:=Q} (startT 2 ts):=by
 rintro R _ Q ⟨rs,g,rfl,lg,h⟩
 unfold Z4l
 walk_at "go"
 refine⟨rs,g,rfl,lg,?_⟩
 cases q:sunAt rs g with
 | some r =>
  rw[q]at h
  walk_at "go"
  exact h
 | none=>rw[q]at h;exact h
abbrev dialAt(ds:List Th)(n:Str):Option Th:=ds.find? fun t=>decide (t.1=n)
def Z2b:SpX:=fun R ts Q=>∃(s0 s1:T) (ds:List Th) (n:Str),ts=[.tup [s0,s1,.lst (ds.map thT)],.str n]/\SOk n/\(∀t∈ds,SOk t.1)/\(match dialAt ds n with|some d=>Q (thT d)|none=>R (.exc "NoName"))
theorem Z56:∀R ts Q,Z2b R ts Q->ts.length=2:=fun R ts Q ⟨_,_,_,_,e,_⟩=>by subst e;rfl
def Z0D(R:T->Prop):WS :=
 (sIf (tCmpT cEqT (w2 rIxTT (wVar 2) (wC (.int 0))) (wVar 1)) (sRet (wVar 2)) sNext)
def Z13(R:T->Prop):WS :=
 (sRaise R "NoName")
def Z3A(R:T->Prop):WS :=
 (sSeq (sIf (tVal (wIsi .str (wVar 1))) (sFor (iSeq (w2 rIxTT (wVar 0) (wC (.int 2)))) (gN 2) (Z0D R)) sNext)
  (Z13 R))
theorem dof_loop{R Q:T->Prop}{x:Slot}{n:Str}(hn:SOk n):∀(ds:List Th)(s2:Slot)(N:List Slot->Prop),(∀t∈ds,SOk t.1)->(match dialAt ds n with|some r=>Q (thT r)|none=>∀s2,N [x,.val (.str n),s2]) →
  forT (gN 2) (Z0D R) (ds.map thT) {nx:=N,rt:=Q} [x,.val (.str n),s2]
 | [],s2,N,_,h=>by
  simp only[List.map,forT]
  exact h s2
 | r::rs,s2,N,hs,h=>by
  have hx:=hs r List.mem_cons_self
  have ih:=fun s2=>dof_loop (R:=R) (Q:=Q) (x:=x) hn rs s2 N fun t ht=>hs t (List.mem_cons_of_mem _ ht)
  simp only[List.map,forT]
  generalize forT (gN 2) (Z0D R) (rs.map thT) {nx:=N,rt:=Q}=F at ih ⊢
  unfold Z0D
  have key:(decide (r.1=n)=true->Q (thT r))/\(decide (r.1=n)=false->∀s2,F [x,.val (.str n),s2]):=by
   refine⟨fun c=>?_,fun c s2=>?_⟩
   ·have e:dialAt (r::rs) n=some r:=List.find?_cons_of_pos c
    rw[e]at h
    exact h
   ·have e:dialAt (r::rs) n=dialAt rs n:=List.find?_cons_of_neg (by rw[c];exact Bool.false_ne_true)
    rw[e]at h
    exact ih _ h
  obtain⟨xn,xp,xt⟩:=r
  cases xt <;>
  ·simp only[thT]at key ⊢
   walk_at "go"
   refine⟨eqOk_str hx hn,?_⟩
   rw[eqT_str]
   refine⟨fun c=>?_,fun c=>?_⟩
   ·have z:=key.1 c
    walk_at "go"
    exact z
   ·exact key.2 c _
theorem Z5p:∀R ts Q,Z2b R ts Q->Z3A R {nx:=fun _=>Q .non,rt:=Q} (startT 3 ts):=by
 rintro R _ Q ⟨s0,s1,ds,n,rfl,hn,hs,h⟩
 unfold Z3A
 obtain⟨W0,hW0⟩:∃W,W=Z0D R:=⟨_,rfl⟩
 obtain⟨W1,hW1⟩:∃W,W=Z13 R:=⟨_,rfl⟩
 rw[← hW0,← hW1]
 walk_at "tw"
 rw[hW0]
 refine⟨fun _=>dof_loop hn ds _ _ hs ?_,fun z=>by cases z⟩
 cases q:dialAt ds n with
 | some r=>rw[q]at h;exact h
 | none =>
  rw[q]at h
  intro s2
  rw[hW1]
  unfold Z13
  walk_at "go"
  exact h
def LeS(a b:Str):Prop:=PySem.Spec.ltCps b.cps.toList a.cps.toList=false
open Classical in
noncomputable def srt(N:List Str):List Str:=if h:∃us:List Str,us.Perm N/\us.Pairwise LeS then h.choose else []
def Z0e:SpT:=fun ts Q=>∃(t:T) (s o d:Tr),ts=[.tup [t,trT s,trT o],trT d]/\(LimT 50 s/\LimT 50 o/\LimT 100 d)/\Q (.bl (decide (0 < dotI (crs s o) d)))
theorem Z39:∀ts Q,Z0e ts Q->ts.length=2:=by rintro ts Q ⟨_,_,_,_,e,_⟩;subst e;rfl
def Z17:WS :=
 (sRet (wCmp cGtT (wCall Z1w (aCons (wCall Z0z (aCons (wVar 0) aNil)) (aCons (wVar 1) aNil))) (wC (.int 0))))
theorem Z3d:∀ts Q,Z0e ts Q->Z17 {nx:=fun _=>Q .non,rt:=Q} (startT 2 ts):=by
 rintro _ Q ⟨t,s,o,d,rfl,⟨ls,lo,ld⟩,h⟩
 have lF:=lim_crs ls lo (k:=101) (by decide)
 unfold Z17
 walk_at "go"
 refine⟨_,s,o,rfl,ls.mono (by decide),lo.mono (by decide),?_⟩
 walk_at "go"
 refine⟨crs s o,d,rfl,lF.mono (by decide),ld.mono (by decide),?_⟩
 walk_at "go"
 exact h
abbrev c_WHOLE:T:=.tup [.tup [.tup [.int 0,.int 1],.tup [.int 0,.int 1]],.tup [.tup [.int 1,.int 1],.tup [.int 0,.int 1]],.tup [.tup [.int 1,.int 1],.tup [.int 1,.int 1]],.tup [.tup [.int 0,.int 1],.tup [.int 1,.int 1]]]
abbrev Whp:List P2:=[(0,0),(1,0),(1,1),(0,1)]
abbrev iP(p:P2):T:=hpl (p.1,p.2,1)
theorem whole_eq:c_WHOLE=.tup (Whp.map iP):=by
 have e0:=fr_one 0
 have e1:=fr_one 1
 show T.tup [.tup [fra 0 1,fra 0 1],.tup [fra 1 1,fra 0 1],.tup [fra 1 1,fra 1 1],.tup [fra 0 1,fra 1 1]]=_
 rw[e0,e1]
 rfl
theorem whole_bx:Whp.map iP=bxT (0,2520,0,2520):=by
 have e0:fr 0 1=fr 0 2520:=fr_eq (by decide) (by decide) (by decide)
 have e1:fr 1 1=fr 2520 2520:=fr_eq (by decide) (by decide) (by decide)
 show [T.tup [fr 0 1,fr 0 1],T.tup [fr 1 1,fr 0 1],T.tup [fr 1 1,fr 1 1],T.tup [fr 0 1,fr 1 1]]=[T.tup [fr 0 2520,fr 0 2520],T.tup [fr 2520 2520,fr 0 2520],T.tup [fr 2520 2520,fr 2520 2520],T.tup [fr 0 2520,fr 2520 2520]]
 rw[e0,e1]
abbrev wpt(c s o:Tr)(u v:Int):Tr:=(c.1 + (u * s.1 + v * o.1),c.2.1 + (u * s.2.1 + v * o.2.1),c.2.2 + (u * s.2.2 + v * o.2.2))
abbrev hgt(c s o c' s' o':Tr)(u v:Int):Int:=dotI (tless (wpt c' s' o' u v) c 1) (crs s o)
theorem l01:∀p∈Whp,Lim 3 p.1/\Lim 3 p.2:=by
 intro p hp
 simp only[List.mem_cons,List.not_mem_nil,or_false]at hp
 rcases hp with rfl|rfl|rfl|rfl<;>exact⟨Lim.of (by decide) (by decide),Lim.of (by decide) (by decide)⟩
theorem point_cal{c s o:Tr}{p:P2}{Q:T->Prop}(lc:LimT 20 c)(ls:LimT 20 s)(lo:LimT 20 o)(hp:Lim 3 p.1/\Lim 3 p.2)(q:Q (pt (wpt c s o p.1 p.2) 1)):Z1e [ptl c s o,iP p] Q:=by
 refine⟨_,_,_,_,_,_,_,_,_,p.1,1,p.2,1,rfl,⟨by decide,by decide,hp.1.mono (by decide),Lim.of (by decide) (by decide),hp.2.mono (by decide),Lim.of (by decide) (by decide)⟩,⟨lc.mono (by decide),ls.mono (by decide),lo.mono (by decide)⟩,?_⟩
 have e:∀a d e:Int,spot a d e p.1 1 p.2 1=a + (p.1 * d + p.2 * e):=fun a d e=>by simp only[spot,Int.mul_one]
 rw[e,e,e,Int.mul_one]
 exact q
theorem lim_wpt{c s o:Tr}{u v:Int}(lc:LimT 20 c)(ls:LimT 20 s)(lo:LimT 20 o)(lu:Lim 3 u)(lv:Lim 3 v):LimT 60 (wpt c s o u v):=by
 have z:∀{a b d:Int},Lim 20 a->Lim 20 b->Lim 20 d->Lim 60 (a + (u * b + v * d)):=fun h1 h2 h3=>(h1.add ((lu.mul h2).add (lv.mul h3))).mono (by decide)
 exact⟨z lc.1 ls.1 lo.1,z lc.2.1 ls.2.1 lo.2.1,z lc.2.2 ls.2.2 lo.2.2⟩
def lvl(l:Tr)(w h:Int):Nat->Pl
 | 0=>((l.1,l.2.1,l.2.2),(w,0,0),(0,h,0))
 | 1=>((l.1,l.2.1,l.2.2),(0,h,0),(w,0,0))
 | 2=>((l.1 + w,l.2.1 + h,l.2.2),(0 - w,0,0),(0,0 - h,0))
 | _=>((l.1 + w,l.2.1,l.2.2),(0 - w,0,0),(0,h,0))
structure Shd where
 X:Int
 Y:Int
 w:Int
 h:Int
 m:Int
 way:Nat
structure ShOk(s:Shd):Prop where
 x:-40 < s.X/\s.X < 40
 y:-40 < s.Y/\s.Y < 40
 w:0 < s.w/\s.w < 20
 h:0 < s.h/\s.h < 20
 m:-1000 < s.m/\s.m < 1000
 way:s.way < 4
abbrev shAt(l d:Tr)(s:Shd):Pl:=lvl (l.1 + s.X + s.m * d.1,l.2.1 + s.Y + s.m * d.2.1,l.2.2 + s.m * d.2.2) s.w s.h s.way
def shBx(W H:Nat)(s:Shd):BX:=if 0 < s.m then meetB (s.X,s.X + s.w,s.Y,s.Y + s.h) (0,W,0,H) else (0,0,0,0)
abbrev faceP(l:Tr)(W H:Nat):Pl:=(l,((W:Int),0,0),(0,(H:Int),0))
theorem shBx_in{W H:Nat}(s:Shd):InF W H (shBx W H s):=by
 unfold shBx
 split
 ·refine⟨?_,?_,?_,?_⟩<;>simp only[meetB,mxI,mnI]<;>split<;>omega
 ·exact⟨by simp,by simp,by simp,by simp⟩
def Z14:SpT:=fun ts Q=>∃(W H:Nat) (u v:Int) (l d:Tr) (s:Shd),ts=[plT (faceP l W H),plT (shAt l d s),trT d]/\Face W H u v/\LimT 3 l/\LimT 3 d/\0 < d.2.2/\ShOk s/\Q (ptB u v (shBx W H s))
theorem Z4m:∀ts Q,Z14 ts Q->ts.length=3:=by rintro ts Q ⟨_,_,_,_,_,_,_,e,_⟩;subst e;rfl
def Z0Y:WE :=
 (wCall Z0A (aCons (wCall Z0F (aCons (wVar 0) (aCons (w2 rIxTT (wVar 1) (wC (.int 0))) aNil))) (aCons (wCall Z0z (aCons (wVar 1) aNil)) aNil)))
def Z0J:WS :=
 (sRet (wCall Z0m (aCons (wVar 5) (aCons (wCB rListT (aCons (wC c_WHOLE) aNil)) aNil))))
def Z30:WS :=
 (sSeq (sSet 3 (wComp (iSeq (wC c_WHOLE)) (gN 0) tTrue (wCall Z1e (aCons (wVar 1) (aCons (wVar 0) aNil))) 1 [1]))
  (sSeq (sSet 4 (wComp (iSeq (wVar 3)) (gN 0) tTrue Z0Y 1 [0]))
  (sSeq (sIf (tVal (wCB rAllT (aCons (wComp (iSeq (wVar 4)) (gN 0) tTrue (wCmp cLeT (w2 rIxTT (wVar 0) (wC (.int 0))) (wC (.int 0))) 1 []) aNil))) (sRet (wLst aNil)) sNext)
  (sSeq (sSet 5 (wCall Z0q (aCons (wComp (iSeq (wVar 3)) (gN 0) tTrue (wCall Z1a (aCons (wVar 1) (aCons (wVar 0) (aCons (wVar 2) aNil)))) 1 [0,2]) (aCons (wVar 4) aNil))))
  (sSeq (sIf (tCmpT cLtT (w2 rIxTT (wCall Z0B (aCons (wVar 5) aNil)) (wC (.int 0))) (wC (.int 0))) (sSet 5 (wLRev (wVar 5))) sNext)
  Z0J)))))
theorem hgt_c0{c s o t:Tr}{Q:T->Prop}(lc:LimT 20 c)(ls:LimT 20 s)(lo:LimT 20 o)(lt:LimT 60 t)(q:Q (fr (dotI (tless t c 1) (crs s o)) 1)):Z0Y [.val (pt t 1),.val (ptl c s o)] Q:=by
 have l1:Lim 1 (1:Int):=Lim.of (by decide) (by decide)
 unfold Z0Y
 walk_at "go"
 refine⟨t,c,1,rfl,lt.mono (by decide),lc.mono (by decide),by decide,l1.mono (by decide),?_⟩
 walk_at "go"
 refine⟨_,s,o,rfl,ls.mono (by decide),lo.mono (by decide),?_⟩
 walk_at "go"
 exact⟨_,_,1,rfl,(lim_tless lt (lc.mono (by decide)) l1 (n:=62) (by decide)).mono (by decide),(lim_crs ls lo (k:=41) (by decide)).mono (by decide),by decide,l1.mono (by decide),q⟩
def whr(w h:Int):Nat->P2->P2
 | 0,p=>(p.1 * w,p.2 * h)
 | 1,p=>(p.2 * w,p.1 * h)
 | 2,p=>(w - p.1 * w,h - p.2 * h)
 | _,p=>(w - p.1 * w,p.2 * h)
theorem wpt_lvl(l:Tr)(w h:Int)(k:Nat)(p:P2):wpt (lvl l w h k).1 (lvl l w h k).2.1 (lvl l w h k).2.2 p.1 p.2=(l.1 + (whr w h k p).1,l.2.1 + (whr w h k p).2,l.2.2):=by
 rcases k with _|_|_|k<;>simp only[lvl,whr,wpt,Prod.mk.injEq]<;>refine⟨?_,?_,?_⟩<;>grind
theorem hgt_lvl{l d:Tr}{W H:Nat}{s:Shd}(p:P2):hgt (faceP l W H).1 (faceP l W H).2.1 (faceP l W H).2.2 (shAt l d s).1 (shAt l d s).2.1 (shAt l d s).2.2 p.1 p.2=s.m * d.2.2 * ((W:Int) * H):=by
 simp only[hgt]
 rw[wpt_lvl]
 simp only[tless,crs,dotI]
 grind
theorem meet_lvl{l d:Tr}{W H:Nat}{s:Shd}(p:P2):meet (faceP l W H).1 (faceP l W H).2.1 (faceP l W H).2.2 (wpt (shAt l d s).1 (shAt l d s).2.1 (shAt l d s).2.2 p.1 p.2) d 1 =
  ((s.X + (whr s.w s.h s.way p).1) * (H * d.2.2),(s.Y + (whr s.w s.h s.way p).2) * (W * d.2.2),(W:Int) * H * d.2.2):=by
 rw[wpt_lvl]
 simp only[meet,tless,crs,dotI,Prod.mk.injEq]
 refine⟨?_,?_,?_⟩<;>grind
theorem meet_iQ{W H:Nat}{u v:Int}(F:Face W H u v){z a b:Int}(hz:0 < z):hpl (a * (H * z),b * (W * z),(W:Int) * H * z)=iQ (a * u,b * v):=by
 have nz:=(face_ne F).1
 have n2:(W:Int) * H * z≠0:=Int.mul_ne_zero nz (by omega)
 have e1:=F.ew
 have e2:=F.eh
 generalize (W:Int)=w at *
 generalize (H:Int)=h at *
 show T.tup [fr (a * (h * z)) (w * h * z),fr (b * (w * z)) (w * h * z)]=T.tup [fr (a * u) 2520,fr (b * v) 2520]
 rw[fr_eq (n':=a * u) (m':=2520) n2 (by decide) (by rw[← e1];grind),fr_eq (n:=b * (w * z)) (n':=b * v) (m':=2520) n2 (by decide) (by rw[← e2];grind)]
theorem limS{n:Int}(h:-1000 < n/\n < 1000):Lim 3 n:=Lim.of (by show -1000 < _;omega) (by show _ < 1000;omega)
theorem lim0{k:Nat}:Lim k (0:Int):=by
 unfold Lim
 exact Nat.pow_pos (by decide)
theorem lim_sh{l d:Tr}{s:Shd}(ll:LimT 3 l)(ld:LimT 3 d)(so:ShOk s):LimT 20 (shAt l d s).1/\LimT 20 (shAt l d s).2.1/\LimT 20 (shAt l d s).2.2:=by
 obtain⟨X,Y,w,h,m,way⟩:=s
 obtain⟨hx,hy,hw,hh,hm,hway⟩:=so
 simp only at hx hy hw hh hm hway
 have lX:=limS (n:=X) (by omega)
 have lY:=limS (n:=Y) (by omega)
 have lw:=limS (n:=w) (by omega)
 have lh:=limS (n:=h) (by omega)
 have lm:=limS (n:=m) (by omega)
 have c1:Lim 10 (l.1 + X + m * d.1):=((ll.1.add lX).add (lm.mul ld.1)).mono (by decide)
 have c2:Lim 10 (l.2.1 + Y + m * d.2.1):=((ll.2.1.add lY).add (lm.mul ld.2.1)).mono (by decide)
 have c3:Lim 10 (l.2.2 + m * d.2.2):=(ll.2.2.add (lm.mul ld.2.2)).mono (by decide)
 have d1:Lim 20 (l.1 + X + m * d.1 + w):=(c1.add lw).mono (by decide)
 have d2:Lim 20 (l.2.1 + Y + m * d.2.1 + h):=(c2.add lh).mono (by decide)
 have w':Lim 20 (0 - w):=(limS (n:=0 - w) (by omega)).mono (by decide)
 have h':Lim 20 (0 - h):=(limS (n:=0 - h) (by omega)).mono (by decide)
 have C1:=c1.mono (show 10<=20 by decide)
 have C2:=c2.mono (show 10<=20 by decide)
 have C3:=c3.mono (show 10<=20 by decide)
 have W':=lw.mono (show 3<=20 by decide)
 have H':=lh.mono (show 3<=20 by decide)
 rcases way with _|_|_|k
 ·exact⟨⟨C1,C2,C3⟩,⟨W',lim0,lim0⟩,⟨lim0,H',lim0⟩⟩
 ·exact⟨⟨C1,C2,C3⟩,⟨lim0,H',lim0⟩,⟨W',lim0,lim0⟩⟩
 ·exact⟨⟨d1,d2,C3⟩,⟨w',lim0,lim0⟩,⟨lim0,h',lim0⟩⟩
 ·exact⟨⟨d1,C2,C3⟩,⟨w',lim0,lim0⟩,⟨lim0,H',lim0⟩⟩
abbrev thr(u v:Int)(s:Shd)(p:P2):P2:=((s.X + (whr s.w s.h s.way p).1) * u,(s.Y + (whr s.w s.h s.way p).2) * v)
theorem cut_const{K:Int}{cr:P2->P2->P2}(hK:0 < K):∀(r:List P2)(a:P2),cutL (fun _=>K) cr a r=r/\CxOk (fun _=>K) cr a r
 | [],a=>⟨rfl,trivial⟩
 | b::r,a=>by
  have n:¬ K * K < 0:=nn2 (.inl ⟨by omega,by omega⟩)
  have ih:=cut_const (cr:=cr) hK r b
  simp only[cutL,CxOk]
  rw[if_neg n,if_pos (by omega),ih.1]
  exact⟨rfl,fun z=>absurd z n,ih.2⟩
theorem thr_sm{W H:Nat}{u v:Int}{s:Shd}(F:Face W H u v)(so:ShOk s):∀p∈Whp,Sm (thr u v s p):=by
 have up:=F.up
 have vp:=F.vp
 have ew:=F.ew
 have eh:=F.eh
 have fn:=face_ne F
 have w0:(1:Int)<=W:=by
  rcases Nat.eq_zero_or_pos W with z|z
  ·rw[z]at ew;simp at ew
  ·omega
 have h0:(1:Int)<=H:=by
  rcases Nat.eq_zero_or_pos H with z|z
  ·rw[z]at eh;simp at eh
  ·omega
 have u1:u<=2520:=by
  have:=Int.mul_le_mul_of_nonneg_left w0 (Int.le_of_lt up)
  omega
 have v1:v<=2520:=by
  have:=Int.mul_le_mul_of_nonneg_left h0 (Int.le_of_lt vp)
  omega
 have bd:∀{a t:Int},0 < t->t<=2520 -> -40 < a->a < 60 -> -200000 < a * t/\a * t < 200000:=fun {a t} h1 h2 h3 h4=>by
  have g1:=Int.mul_le_mul_of_nonneg_right (show (-40:Int)<=a by omega) (Int.le_of_lt h1)
  have g2:=Int.mul_le_mul_of_nonneg_right (show a<=60 by omega) (Int.le_of_lt h1)
  omega
 obtain⟨X,Y,w,h,m,way⟩:=s
 obtain⟨hx,hy,hw,hh,hm,hway⟩:=so
 simp only at hx hy hw hh hm hway
 intro p hp
 have hp01:(p.1=0∨p.1=1)/\(p.2=0∨p.2=1):=by
  simp only[List.mem_cons,List.not_mem_nil,or_false]at hp
  rcases hp with rfl|rfl|rfl|rfl<;>simp
 have e1:-40 < X + (whr w h way p).1/\X + (whr w h way p).1 < 60:=by
  rcases hp01 with ⟨z1|z1,z2|z2⟩<;>rcases way with _|_|_|k<;>simp only[whr,z1,z2]<;>omega
 have e2:-40 < Y + (whr w h way p).2/\Y + (whr w h way p).2 < 60:=by
  rcases hp01 with ⟨z1|z1,z2|z2⟩<;>rcases way with _|_|_|k<;>simp only[whr,z1,z2]<;>omega
 exact⟨bd up u1 e1.1 e1.2,bd vp v1 e2.1 e2.2⟩
theorem thr_area(u v:Int)(s:Shd)(hw:s.way < 4):area2 (Whp.map (thr u v s))=(if s.way=0∨s.way=2 then 1 else -1) * (2 * (s.w * s.h * (u * v))):=by
 obtain⟨X,Y,w,h,m,way⟩:=s
 rcases way with _|_|_|_|k
 ·simp only[List.map,thr,whr,area2,List.getLastD,chain,cr];grind
 ·simp only[List.map,thr,whr,area2,List.getLastD,chain,cr];grind
 ·simp only[List.map,thr,whr,area2,List.getLastD,chain,cr];grind
 ·simp only[List.map,thr,whr,area2,List.getLastD,chain,cr];grind
 ·simp only at hw;omega
abbrev bx0(s:Shd):BX:=(s.X,s.X + s.w,s.Y,s.Y + s.h)
theorem thr_rot(u v:Int)(s:Shd)(hw:s.way < 4):Rot (box0 (scB u v (bx0 s)).1 (scB u v (bx0 s)).2.1 (scB u v (bx0 s)).2.2.1 (scB u v (bx0 s)).2.2.2) (if s.way=0∨s.way=2 then Whp.map (thr u v s) else (Whp.map (thr u v s)).reverse):=by
 obtain⟨X,Y,w,h,m,way⟩:=s
 have z:∀a:Int,a + (0:Int)=a:=fun a=>by omega
 rcases way with _|_|_|_|k
 ·rw[if_pos (by simp)]
  refine⟨[],_,rfl,?_⟩
  simp[thr,whr]
 ·rw[if_neg (by simp)]
  refine⟨[(X * u,Y * v)],[((X + w) * u,Y * v),((X + w) * u,(Y + h) * v),(X * u,(Y + h) * v)],rfl,?_⟩
  simp[thr,whr]
 ·rw[if_pos (by simp)]
  refine⟨[(X * u,Y * v),((X + w) * u,Y * v)],[((X + w) * u,(Y + h) * v),(X * u,(Y + h) * v)],rfl,?_⟩
  simp[thr,whr]
 ·rw[if_neg (by simp)]
  refine⟨[(X * u,Y * v),((X + w) * u,Y * v)],[((X + w) * u,(Y + h) * v),(X * u,(Y + h) * v)],rfl,?_⟩
  simp[thr,whr]
 ·simp only at hw;omega
theorem bx_whole{W H:Nat}{u v:Int}{s:Shd}{Q:T->Prop}{l:List P2}(F:Face W H u v)(so:ShOk s)(hm:0 < s.m)(hr:Rot (box0 (scB u v (bx0 s)).1 (scB u v (bx0 s)).2.1 (scB u v (bx0 s)).2.2.1 (scB u v (bx0 s)).2.2.2) l)(sm:∀p∈l,Sm p)(q:Q (ptB u v (shBx W H s))):Z0m [.lst (l.map iQ),.lst (bxT (0,2520,0,2520))] Q:=by
 have ew:=F.ew
 have eh:=F.eh
 rw[Int.mul_comm]at ew eh
 have ec:((0,2520,0,2520):BX)=scB u v (0,(W:Int),0,(H:Int)):=by simp only[scB,ew,eh,Int.zero_mul]
 have b1:s.X * u < (s.X + s.w) * u:=(mulW F.up).mpr (by have:=so.w.1;omega)
 have b2:s.Y * v < (s.Y + s.h) * v:=(mulW F.vp).mpr (by have:=so.h.1;omega)
 have m1:=sm _ (hr.mem.mpr (show ((s.X * u,s.Y * v):P2)∈_ by simp))
 have m2:=sm _ (hr.mem.mpr (show (((s.X + s.w) * u,(s.Y + s.h) * v):P2)∈_ by simp))
 refine .inr (.inr ⟨scB u v (bx0 s),_,l,rfl,hr,⟨b1,b2,m1.1.1,m2.1.2,m1.2.1,m2.2.2⟩,⟨by decide,by decide,by decide,by decide,by decide,by decide⟩,?_⟩)
 rw[ec]
 unfold ptB shBx at q
 rw[if_pos hm]at q
 unfold interT
 simp only[mxW F.up,mnW F.up,mxW F.vp,mnW F.vp,mulW F.up,mulW F.vp]
 exact q
theorem bools_const{α:Type}{b:Bool}:∀l:List α,boolsOf (l.map fun _=>T.bl b)=some (l.map fun _=>b)
 | []=>rfl
 | a::l=>by simp only[List.map,boolsOf,bools_const l,Option.map]
theorem Z4K:∀ts Q,Z14 ts Q->Z30 {nx:=fun _=>Q .non,rt:=Q} (startT 6 ts):=by
 rintro _ Q ⟨W,H,u,v,l,d,s,rfl,F,ll,ld,dz,so,q⟩
 obtain⟨lc',ls',lo'⟩:=lim_sh ll ld so
 have ll':=ll.mono (show 3<=20 by decide)
 have ld':=ld.mono (show 3<=20 by decide)
 obtain⟨nz,p0,lwh⟩:=face_ne F
 have lW:Lim 20 (W:Int):=Lim.of (by have:=F.w1;show -100000000000000000000 < _;omega) (by have:=F.w1;show _ < 100000000000000000000;omega)
 have lH:Lim 20 (H:Int):=Lim.of (by have:=F.h1;show -100000000000000000000 < _;omega) (by have:=F.h1;show _ < 100000000000000000000;omega)
 have lfs:LimT 20 (((W:Int),0,0):Tr):=⟨lW,lim0,lim0⟩
 have lfo:LimT 20 ((0,(H:Int),0):Tr):=⟨lim0,lH,lim0⟩
 have lw:∀p∈Whp,LimT 60 (wpt (shAt l d s).1 (shAt l d s).2.1 (shAt l d s).2.2 p.1 p.2):=fun p hp=>lim_wpt lc' ls' lo' (l01 p hp).1 (l01 p hp).2
 have hg:∀p:P2,hgt (faceP l W H).1 (faceP l W H).2.1 (faceP l W H).2.2 (shAt l d s).1 (shAt l d s).2.1 (shAt l d s).2.2 p.1 p.2=s.m * d.2.2 * ((W:Int) * H):=hgt_lvl
 have mt:∀p:P2,hpl (meet (faceP l W H).1 (faceP l W H).2.1 (faceP l W H).2.2 (wpt (shAt l d s).1 (shAt l d s).2.1 (shAt l d s).2.2 p.1 p.2) d 1)=iQ (thr u v s p):=fun p=>by rw[meet_lvl];exact meet_iQ F dz
 have sm:=thr_sm F so
 have ar:=thr_area u v s so.way
 have rt:=thr_rot u v s so.way
 have l01':=l01
 have hfd:dotI (crs (faceP l W H).2.1 (faceP l W H).2.2) d≠0:=by
  have:dotI (crs (faceP l W H).2.1 (faceP l W H).2.2) d=(W:Int) * H * d.2.2:=by simp only[crs,dotI];grind
  rw[this]
  exact Int.mul_ne_zero nz (by omega)
 generalize shAt l d s=other at *
 obtain⟨c',s',o'⟩:=other
 simp only at lc' ls' lo' lw hg mt hfd
 unfold Z30
 rw[whole_eq]
 obtain⟨W0,hW0⟩:∃W,W=Z0Y:=⟨_,rfl⟩
 obtain⟨W1,hW1⟩:∃W,W=Z0J:=⟨_,rfl⟩
 obtain⟨L,hL⟩:∃L,L=Whp:=⟨_,rfl⟩
 rw[← hL]at lw sm ar rt l01'
 rw[← hW0,← hW1,← hL]
 have hl:L.length<=900:=by subst hL;decide
 walk_at "tw"
 refine⟨by rw[List.length_map];omega,?_⟩
 refine comp_map (g:=fun p=>pt (wpt c' s' o' p.1 p.2) 1) L [] _ _ (fun p hp R hR=>point_cal lc' ls' lo' (l01' p hp) hR) ?_
 rw[List.nil_append]
 refine⟨by rw[List.length_map];omega,?_⟩
 rw[hW0]
 refine comp_map (g:=fun p=>fr (s.m * d.2.2 * ((W:Int) * H)) 1) L [] _ _ (fun p hp R hR=>hgt_c0 ll' lfs lfo (lw p hp) (by show R (fr (hgt l ((W:Int),0,0) (0,(H:Int),0) c' s' o' p.1 p.2) 1);rw[hg p];exact hR)) ?_
 rw[List.nil_append]
 refine⟨by rw[List.length_map];omega,?_⟩
 refine comp_map (g:=fun _=>.bl (decide (s.m * d.2.2 * ((W:Int) * H)<=0))) L [] _ _ (fun p hp R hR=>?_) ?_
 ·rw[← fr_one]
  exact hR
 rw[List.nil_append,bools_const]
 by_cases hm:0 < s.m
 ·have kp:0 < s.m * d.2.2 * ((W:Int) * H):=Int.mul_pos (Int.mul_pos hm dz) p0
  have e0:(L.map fun _=>decide (s.m * d.2.2 * ((W:Int) * H)<=0)).all id=false:=by
   rw[hL,decide_eq_false (by omega)]
   rfl
  have lk:Lim 12 (s.m * d.2.2 * ((W:Int) * H)):=(((limS so.m).mul ld.2.2).mul lwh).mono (by decide)
  refine⟨fun z=>?_,fun _=>⟨by rw[List.length_map];omega,?_⟩⟩
  ·exact absurd (e0.symm.trans z) (by decide)
  refine comp_map (g:=fun p=>iQ (thr u v s p)) L [] _ _ (fun p hp R hR=>?_) ?_
  ·refine⟨l,((W:Int),0,0),(0,(H:Int),0),wpt c' s' o' p.1 p.2,d,1,rfl,⟨ll.mono (by decide),lfs.mono (by decide),lfo.mono (by decide),ld.mono (by decide)⟩,(lw p hp).mono (by decide),by decide,Lim.of (by decide) (by decide),fun z=>absurd z hfd,fun _=>?_⟩
   rw[mt]
   exact hR
  rw[List.nil_append]
  generalize hK:s.m * d.2.2 * ((W:Int) * H)=K at kp lk
  have eK:fr K 1=hT (K * 6350400):=fr_eq (by decide) (by decide) (by rw[Int.mul_one])
  have kp':0 < K * 6350400:=by omega
  have cc:=cut_const (cr:=fun a _=>a) kp' (L.map (thr u v s)) ((L.map (thr u v s)).getLastD (0,0))
  refine⟨L.map (thr u v s),fun _=>K * 6350400,fun a _=>a,?_,by rw[List.length_map];subst hL;decide,fun p hp=>?_,(cxW_eq _ (0,0)).mpr cc.2,?_⟩
  ·rw[List.map_map,List.map_map,List.map_map,eK]
   rfl
  ·obtain⟨p',hp',rfl⟩:=List.mem_map.mp hp
   exact⟨sm p' hp',((lk.mul (show Lim 7 (6350400:Int) from Lim.of (by decide) (by decide)))).mono (by decide)⟩
  rw[cutW_eq _ (0,0),cc.1]
  refine⟨2520,L.map (thr u v s),rfl,⟨by decide,Lim.of (by decide) (by decide),by rw[List.length_map];omega,fun p hp=>?_⟩,?_⟩
  ·obtain⟨p',hp',rfl⟩:=List.mem_map.mp hp
   have:=sm_lim (sm p' hp')
   exact⟨this.1.mono (by decide),this.2.mono (by decide)⟩
  have sg:=(fr_sgn (a:=area2 (L.map (thr u v s))) (b:=2520 * 2520 * 2) (by decide)).1
  have pos:0 < 2 * (s.w * s.h * (u * v)):=by
   have:=Int.mul_pos (Int.mul_pos so.w.1 so.h.1) (Int.mul_pos F.up F.vp)
   omega
  have smM:∀p∈L.map (thr u v s),Sm p:=fun p hp=>by
   obtain⟨p',hp',rfl⟩:=List.mem_map.mp hp
   exact sm p' hp'
  generalize L.map (thr u v s)=M at *
  have k0:∀l2:List P2,(if s.way=0∨s.way=2 then M else M.reverse)=l2->(∀p∈l2,Sm p)->W1 {nx:=fun _=>Q .non,rt:=Q} [.val (plT (faceP l W H)),.val (ptl c' s' o'),.val (trT d),.val (.lst (L.map fun p=>pt (wpt c' s' o' p.1 p.2) 1)),.val (.lst (L.map fun p=>fr K 1)),.val (.lst (l2.map iQ))]:=fun l2 e2 hs=>by
   rw[e2]at rt
   rw[hW1]
   unfold Z0J
   rw[whole_eq]
   obtain⟨SB,hSB⟩:∃S,S=Z0m:=⟨_,rfl⟩
   rw[← hSB]
   obtain⟨L',hL'⟩:∃L,L=Whp.map iP:=⟨_,rfl⟩
   rw[← hL']
   walk_at "tw"
   rw[hSB,hL',whole_bx]
   exact bx_whole F so hm rt hs q
  rw[ar]at sg ⊢
  by_cases hw:s.way=0∨s.way=2
  ·rw[if_pos hw]at sg k0 ⊢
   have nn:¬ frN (1 * (2 * (s.w * s.h * (u * v)))) (2520 * 2520 * 2) < 0:=fun z=>by have:=sg.mp z;omega
   have e3:decide (frN (1 * (2 * (s.w * s.h * (u * v)))) (2520 * 2520 * 2) < 0)=false:=decide_eq_false nn
   exact⟨fun z=>Bool.noConfusion (z.symm.trans e3),fun _=>k0 M rfl smM⟩
  ·rw[if_neg hw]at sg k0 ⊢
   have nn:frN (-1 * (2 * (s.w * s.h * (u * v)))) (2520 * 2520 * 2) < 0:=sg.mpr (by omega)
   have e3:decide (frN (-1 * (2 * (s.w * s.h * (u * v)))) (2520 * 2520 * 2) < 0)=true:=decide_eq_true nn
   refine⟨fun _=>?_,fun z=>Bool.noConfusion (z.symm.trans e3)⟩
   have:=k0 M.reverse rfl fun p hp=>smM p (List.mem_reverse.mp hp)
   rw[List.map_reverse]at this
   exact this
 ·have kn:s.m * d.2.2 * ((W:Int) * H)<=0:=by
   have:=Int.mul_nonneg (Int.mul_nonneg (show 0 <= -s.m by omega) (Int.le_of_lt dz)) (Int.le_of_lt p0)
   have e:-s.m * d.2.2 * ((W:Int) * H)=-(s.m * d.2.2 * ((W:Int) * H)):=by grind
   omega
  have e0:(L.map fun _=>decide (s.m * d.2.2 * ((W:Int) * H)<=0)).all id=true:=by
   rw[hL,decide_eq_true kn]
   rfl
  unfold ptB shBx at q
  rw[if_neg hm]at q
  refine⟨fun _=>q,fun z=>absurd (e0.symm.trans z) (by decide)⟩
abbrev yardT(sun:List (Int×Tr))(ws ds:List Th):T:=.tup [.lst (sun.map sT),.lst (ws.map thT),.lst (ds.map thT)]
abbrev c_MOST_SHADING:T:=.int 6
def nonE(b:BX):Bool:=decide (b.1 < b.2.1/\b.2.2.1 < b.2.2.2)
structure Abt(W H:Nat)(u v:Int)(l d:Tr)(n:Str)(ws ds:List Th)(ss:List Shd):Prop where
 F:Face W H u v
 ll:LimT 3 l
 ld:LimT 3 d
 dz:0 < d.2.2
 sn:SOk n
 sk:∀t∈ws++ds,SOk t.1
 len:ws.length + ds.length<=100
 eq:((ws++ds).filter fun t=>!decide (t.1=n)).map (·.2.1)=ss.map (shAt l d)
 ok:∀s∈ss,ShOk s
theorem th_at1(t:Th):∃r,thT t=.tup (.str t.1::plT t.2.1::r):=by
 obtain⟨n,p,t⟩:=t
 cases t with
 | none=>exact⟨_,rfl⟩
 | some t=>exact⟨_,rfl⟩
def Z0x:SpT:=fun ts Q=>∃(s0:T) (W H:Nat) (u v:Int) (l d:Tr) (n:Str) (tp:Option Tr) (ws ds:List Th) (ss:List Shd),ts=[.tup [s0,.lst (ws.map thT),.lst (ds.map thT)],thT (n,faceP l W H,tp),trT d]/\Abt W H u v l d n ws ds ss/\Q (.lst (((ss.map (shBx W H)).filter nonE).map (ptB u v)))
theorem Z3I:∀ts Q,Z0x ts Q->ts.length=3:=by rintro ts Q ⟨_,_,_,_,_,_,_,_,_,_,_,_,e,_⟩;subst e;rfl
def Z0k:WE :=
 (wCall Z14 (aCons (w2 rIxTT (wVar 2) (wC (.int 1))) (aCons (w2 rIxTT (wVar 0) (wC (.int 1))) (aCons (wVar 1) aNil))))
def Z2h:WS :=
 (sSeq (sSet 3 (wComp (iSeq (w2 rCatLT (w2 rIxTT (wVar 0) (wC (.int 1))) (w2 rIxTT (wVar 0) (wC (.int 2))))) (gN 0) (tCmpT cNeT (w2 rIxTT (wVar 0) (wC (.int 0))) (w2 rIxTT (wVar 1) (wC (.int 0)))) (wVar 0) 1 [1]))
  (sSeq (sSet 4 (wComp (iSeq (wVar 3)) (gN 0) tTrue Z0k 1 [2,1]))
  (sRet (wComp (iSeq (wVar 4)) (gN 0) (tTruT (wVar 0)) (wVar 0) 1 []))))
theorem comp_filt{α:Type}{f g:α->T}{W:WE}{V:WT}{E:List Slot}{p:α->Bool}:∀(l:List α)(acc:List T)(x:Slot)(Q:List T->Prop),(∀a∈l,∀Q:Bool->Prop,Q (p a)->V (.val (f a)::E) Q)->(∀a∈l,p a=true->∀Q:T->Prop,Q (g a)->W (.val (f a)::E) Q)->Q (acc++(l.filter p).map g)->compT (gN 0) V W (l.map f) acc (x::E) Q
 | [],acc,x,Q,_,_,h=>by
  simp only[List.filter_nil,List.map_nil,List.append_nil]at h
  simp only[List.map,compT]
  exact h
 | a::l,acc,x,Q,hV,hW,h=>by
  have i1:=fun acc=>comp_filt (f:=f) (g:=g) (W:=W) (V:=V) (E:=E) (p:=p) l acc (.val (f a)) Q (fun b hb=>hV b (List.mem_cons_of_mem _ hb)) (fun b hb=>hW b (List.mem_cons_of_mem _ hb))
  simp only[List.map,compT]
  show V (.val (f a)::E) _
  refine hV a List.mem_cons_self _ ?_
  cases e:p a with
  | true =>
   refine⟨fun _=>hW a List.mem_cons_self e _ (i1 _ ?_),fun z=>by cases z⟩
   simpa [List.filter_cons,e] using h
  | false =>
   refine⟨(fun z=>by cases z),fun _=>i1 _ ?_⟩
   simpa [List.filter_cons,e] using h
theorem ptB_tru(u v:Int)(b:BX):∃us,ptB u v b=.lst us/\(!us.isEmpty)=nonE b:=by
 unfold ptB nonE
 split
 ·rename_i h
  exact⟨_,rfl,by rw[decide_eq_true h];rfl⟩
 ·rename_i h
  exact⟨_,rfl,by rw[decide_eq_false h];rfl⟩
theorem shd_comp{W H:Nat}{u v:Int}{l d:Tr}{n:Str}{ws ds:List Th}{ss0:List Shd}{tp:Option Tr}{r0:List T}(e0:thT (n,faceP l W H,tp)=.tup (.str n::plT (faceP l W H)::r0))(A:Abt W H u v l d n ws ds ss0):∀(ts:List Th)(ss:List Shd)(acc:List T)(x:Slot)(Q:List T->Prop),ts.map (·.2.1)=ss.map (shAt l d)->(∀s∈ss,ShOk s)->Q (acc++(ss.map (shBx W H)).map (ptB u v)) →
  compT (gN 0) tTrue Z0k (ts.map thT) acc [x,.val (trT d),.val (.tup (.str n::plT (faceP l W H)::r0))] Q
 | [],[],acc,x,Q,_,_,h=>by
  simp only[List.map_nil,List.append_nil]at h
  simp only[List.map,compT]
  exact h
 | [],_::_,acc,x,Q,e,_,h=>by simp at e
 | _::_,[],acc,x,Q,e,_,h=>by simp at e
 | t::ts,s::ss,acc,x,Q,e,ok,h=>by
  simp only[List.map_cons,List.cons.injEq]at e
  obtain⟨et,e⟩:=e
  have i1:=shd_comp e0 A ts ss (acc++[ptB u v (shBx W H s)]) (.val (thT t)) Q e (fun s hs=>ok s (List.mem_cons_of_mem _ hs)) (by simpa using h)
  simp only[List.map,compT]
  generalize compT (gN 0) tTrue Z0k (ts.map thT)=CC at i1 ⊢
  refine⟨fun _=>?_,fun z=>(by cases z)⟩
  obtain⟨r,e1⟩:=th_at1 t
  rw[e1]at i1 ⊢
  rw[et]at i1 ⊢
  unfold Z0k
  obtain⟨SS,hSS⟩:∃S,S=Z14:=⟨_,rfl⟩
  rw[← hSS]
  walk_at "tw"
  rw[hSS]
  exact⟨W,H,u,v,l,d,s,rfl,A.F,A.ll,A.ld,A.dz,ok s List.mem_cons_self,i1⟩
theorem Z3X:∀ts Q,Z0x ts Q->Z2h {nx:=fun _=>Q .non,rt:=Q} (startT 5 ts):=by
 rintro _ Q ⟨s0,W,H,u,v,l,d,n,tp,ws,ds,ss,rfl,A,q⟩
 obtain⟨r0,e0⟩:=th_at1 (n,faceP l W H,tp)
 simp only at e0
 rw[e0]
 have hlen:=A.len
 have f1:(((ws++ds).filter fun t=>!decide (t.1=n))).length<=100:=by
  have:=List.length_filter_le (fun t:Th=>!decide (t.1=n)) (ws++ds)
  rw[List.length_append]at this
  omega
 have f2:ss.length<=100:=by
  have:=congrArg List.length A.eq
  rw[List.length_map,List.length_map]at this
  omega
 unfold Z2h
 obtain⟨W0,hW0⟩:∃W,W=Z0k:=⟨_,rfl⟩
 rw[← hW0]
 walk_at "tw"
 refine⟨by rw[List.length_map,List.length_map];omega,by rw[List.length_append,List.length_map,List.length_map];omega,?_⟩
 rw[← List.map_append]
 refine comp_filt (p:=fun t:Th=>!decide (t.1=n)) (g:=thT) (ws++ds) [] _ _ (fun t ht R hR=>?_) (fun t ht _ R hR=>hR) ?_
 ·obtain⟨r,e⟩:=th_at1 t
  rw[e]
  have ok:=eqOk_str (A.sk t ht) A.sn
  have:=eqT_str t.1 n
  walk_at "tw"
  refine⟨ok,?_⟩
  rw[this]
  exact hR
 rw[List.nil_append]
 refine⟨by rw[List.length_map];omega,?_⟩
 rw[hW0]
 refine shd_comp e0 A _ ss [] _ _ A.eq A.ok ?_
 rw[List.nil_append]
 refine⟨by rw[List.length_map,List.length_map];omega,?_⟩
 refine comp_filt (p:=nonE) (g:=ptB u v) (ss.map (shBx W H)) [] _ _ (fun b hb R hR=>?_) (fun b hb _ R hR=>hR) ?_
 ·obtain⟨us,e1,e2⟩:=ptB_tru u v b
  rw[e1]
  rw[← e2]at hR
  exact hR
 rw[List.nil_append]
 exact q
theorem cov_filt(bs:List BX)(i j:Int):covB (bs.filter nonE) i j=covB bs i j:=by
 induction bs with
 | nil=>rfl
 | cons b r ih =>
  unfold covB at ih ⊢
  rw[List.filter_cons,List.any_cons]
  cases e:nonE b with
  | true=>rw[if_pos rfl,List.any_cons,ih]
  | false =>
   rw[if_neg (by decide),ih]
   have:inB b i j=false:=by
    unfold nonE at e
    unfold inB
    have:=of_decide_eq_false e
    exact decide_eq_false (by omega)
   rw[this,Bool.false_or]
def Z0E:SpX:=fun R ts Q=>∃(sun:List (Int×Tr)) (ws ds:List Th) (h:Int) (n:Str),ts=[yardT sun ws ds,.int h,.str n]/\SOk n/\(∀t∈ds,SOk t.1)/\h.natAbs.log2 < 1920 ∧
 (match sunAt sun h with
  | none=>R (noHour h)
  | some e=>(match dialAt ds n with
   | none=>R (.exc "NoName")
   | some t=>(LimT 3 e.2/\PlLim 20 t.2.1)/\(¬ 0 < e.2.2.2->Q (fra 0 1))/\(0 < e.2.2.2->¬ 0 < dotI (crs t.2.1.2.1 t.2.1.2.2) e.2->Q (fra 0 1))/\(0 < e.2.2.2->0 < dotI (crs t.2.1.2.1 t.2.1.2.2) e.2 →
     ∃(W H:Nat) (u v:Int) (l:Tr) (tp:Option Tr) (ss:List Shd),t=(n,faceP l W H,tp)/\Abt W H u v l e.2 n ws ds ss/\(6 < ((ss.map (shBx W H)).filter nonE).length->R (.exc "TooMany"))/\(((ss.map (shBx W H)).filter nonE).length<=6->Q (fr (W * H - cnt (covB (ss.map (shBx W H))) H W) (W * H))))))
theorem Z3e:∀R ts Q,Z0E R ts Q->ts.length=3:=fun R ts Q ⟨_,_,_,_,_,e,_⟩=>by subst e;rfl
def Z31(R:T->Prop):WS :=
 (sSeq (sSet 3 (wCall (Z0w R) (aCons (w2 rIxTT (wVar 0) (wC (.int 0))) (aCons (wVar 1) aNil))))
  (sSeq (sSet 4 (wCall (Z2b R) (aCons (wVar 0) (aCons (wVar 2) aNil))))
  (sSeq (sIf (tOrT (tNotT (tVal (wCall (Z2p R) (aCons (w2 rIxTT (wVar 0) (wC (.int 0))) (aCons (wVar 1) aNil))))) (tNotT (tVal (wCall Z0e (aCons (w2 rIxTT (wVar 4) (wC (.int 1))) (aCons (wVar 3) aNil)))))) (sRet (wTup (aCons (wC (.int 0)) (aCons (wC (.int 1)) aNil)))) sNext)
  (sSeq (sSet 5 (wCall Z0x (aCons (wVar 0) (aCons (wVar 4) (aCons (wVar 3) aNil)))))
  (sSeq (sIf (tCmpT cGtT (wCB rLenT (aCons (wVar 5) aNil)) (wC c_MOST_SHADING)) (sRaise R "TooMany") sNext)
  (sRet (wCall Z00 (aCons (wTup (aCons (wC (.int 1)) (aCons (wC (.int 1)) aNil))) (aCons (wCall Z1i (aCons (wVar 5) aNil)) aNil)))))))))
theorem Z4L:∀R ts Q,Z0E R ts Q->Z31 R {nx:=fun _=>Q .non,rt:=Q} (startT 6 ts):=by
 rintro R _ Q ⟨sun,ws,ds,h,n,rfl,sn,sk,lh,hh⟩
 unfold Z31
 obtain⟨SJ,hSJ⟩:∃S,S=Z1i:=⟨_,rfl⟩
 obtain⟨SL,hSL⟩:∃S,S=Z00:=⟨_,rfl⟩
 obtain⟨SP,hSP⟩:∃S,S=Z0x:=⟨_,rfl⟩
 obtain⟨SA,hSA⟩:∃S,S=Z0e:=⟨_,rfl⟩
 obtain⟨SU,hSU⟩:∃S,S=Z2p R:=⟨_,rfl⟩
 rw[← hSJ,← hSL,← hSP,← hSA,← hSU]
 walk_at "go"
 refine⟨sun,h,rfl,lh,?_⟩
 cases es:sunAt sun h with
 | none=>rw[es]at hh;exact hh
 | some e =>
  rw[es]at hh
  simp only at hh ⊢
  walk_at "go"
  refine⟨_,_,ds,n,rfl,sn,sk,?_⟩
  cases ed:dialAt ds n with
  | none=>rw[ed]at hh;exact hh
  | some t =>
   rw[ed]at hh
   simp only at hh ⊢
   obtain⟨⟨le,lp⟩,h1,h2,h3⟩:=hh
   obtain⟨n',p,tp⟩:=t
   simp only at lp h2 h3
   obtain⟨r,et⟩:∃r,thT (n',p,tp)=.tup r:=by cases tp<;>exact⟨_,rfl⟩
   have e1:atI r 1=some (plT p):=by cases tp<;>(simp only[thT,T.tup.injEq]at et;subst et;rfl)
   have up:∀Q:T->Prop,Q (.bl (decide (e.2.2.2 > 0)))->SU [.lst (sun.map sT),.int h] Q:=fun Q q=>by rw[hSU];exact⟨sun,h,rfl,lh,by rw[es];exact q⟩
   have ca:∀Q:T->Prop,Q (.bl (decide (0 < dotI (crs p.2.1 p.2.2) e.2)))->SA [plT p,trT e.2] Q:=fun Q q=>by
    rw[hSA]
    exact⟨_,_,_,_,rfl,⟨lp.2.1.mono (by decide),lp.2.2.mono (by decide),le.mono (by decide)⟩,q⟩
   have pa:0 < e.2.2.2->0 < dotI (crs p.2.1 p.2.2) e.2->∀Q':T->Prop,(∀bs:List T,((6:Int) < bs.length->R (.exc "TooMany"))->(¬ (6:Int) < bs.length->SJ [.lst bs] (fun y=>SL [.tup [.int 1,.int 1],y] Q))->Q' (.lst bs))->SP [yardT sun ws ds,.tup r,trT e.2] Q':=fun z1 z2 Q' hQ'=>by
    obtain⟨W,H,u,v,l,tp',ss,e2,A,k1,k2⟩:=h3 z1 z2
    simp only[Prod.mk.injEq]at e2
    obtain⟨rfl,rfl,rfl⟩:=e2
    obtain⟨nz,p0,lwh⟩:=face_ne A.F
    rw[hSP,← et]
    refine⟨_,W,H,u,v,l,e.2,_,tp,ws,ds,ss,rfl,A,hQ' _ (fun g=>k1 (by rw[List.length_map]at g;omega)) fun g=>?_⟩
    rw[List.length_map]at g
    have g':((ss.map (shBx W H)).filter nonE).length<=6:=by omega
    have ec:cnt (covB ((ss.map (shBx W H)).filter nonE)) H W=cnt (covB (ss.map (shBx W H))) H W:=cnt_congr W fun i j _ _=>cov_filt _ i j
    rw[hSJ]
    refine⟨W,H,u,v,(ss.map (shBx W H)).filter nonE,rfl,A.F,show _<=7 by omega,by decide,fun b hb=>?_,?_⟩
    ·obtain⟨s,hs,rfl⟩:=List.mem_map.mp (List.mem_filter.mp hb).1
     exact shBx_in s
    ·rw[ec,hSL,show (T.tup [T.int 1,T.int 1])=fr ((W:Int) * H) (W * H) from by rw[show (T.tup [T.int 1,T.int 1])=fr 1 1 from fr_one 1];exact fr_eq (by decide) nz (by rw[Int.one_mul,Int.mul_one])]
     refine⟨_,_,_,_,rfl,⟨nz,nz,lwh.mono (by decide),lwh.mono (by decide),(cnt_lim A.F).mono (by decide),lwh.mono (by decide)⟩,?_⟩
     rw[fr_sub1 nz]
     exact k2 g'
   rw[et]
   walk_at "go"
   refine up _ ?_
   by_cases z:0 < e.2.2.2
   ·rw[show decide (e.2.2.2 > 0)=true from decide_eq_true z]
    walk_at "go"
    rw[e1]
    refine ca _ ?_
    by_cases z2:0 < dotI (crs p.2.1 p.2.2) e.2
    ·rw[decide_eq_true z2]
     walk_at "go"
     refine pa z z2 _ fun bs g1 g2=>?_
     walk_at "go"
     refine⟨fun c=>g1 (of_decide_eq_true c),fun c=>?_⟩
     walk_at "go"
     exact g2 (of_decide_eq_false c)
    ·rw[decide_eq_false z2]
     walk_at "go"
     exact h2 z z2
   ·rw[show decide (e.2.2.2 > 0)=false from decide_eq_false z]
    walk_at "go"
    exact h1 z
structure Sg(n:Nat)(z:Str):Prop where
 len:z.length<=n
 ok:PyData.strOk z=true
theorem strOk_app(a b:Str):PyData.strOk (a++b)=(PyData.strOk a&&PyData.strOk b):=by
 unfold PyData.strOk
 rw[Str.cps_append]
 exact Array.all_append
theorem Sg.app{m n k:Nat}{a b:Str}(ha:Sg m a)(hb:Sg n b)(h:m + n<=k):Sg k (a++b) :=
 ⟨by rw[Str.length_append];have:=ha.len;have:=hb.len;omega,by rw[strOk_app,ha.ok,hb.ok];rfl⟩
theorem Sg.mono{m n:Nat}{a:Str}(ha:Sg m a)(h:m<=n):Sg n a:=⟨Nat.le_trans ha.len h,ha.ok⟩
theorem join_eq(sep:Str)(zs:List Str):Txt.join sep zs=Str.join sep zs:=StrLaws.glued_eq_join sep zs
theorem Sg.join'{n m:Nat}{sep:Str}(hs:Sg m sep):∀{zs:List Str},(∀z∈zs,Sg n z)->Sg (zs.length * (n + m)) (Str.join sep zs)
 | [],_=>⟨by show (Str.empty).length<=_;exact Nat.zero_le _,by show PyData.strOk Str.empty=true;decide +kernel⟩
 | [z],h=>(h z List.mem_cons_self).mono (by simp)
 | z::y::r,h=>by
  have ih:=Sg.join' hs (zs:=y::r) fun x hx=>h x (List.mem_cons_of_mem _ hx)
  show Sg _ (z++sep++Str.join sep (y::r))
  have h1:=(h z List.mem_cons_self).app hs (Nat.le_refl _)
  refine h1.app ih ?_
  simp only[List.length_cons,Nat.add_mul,Nat.one_mul]
  omega
theorem Sg.join{n m k:Nat}{sep:Str}{zs:List Str}(hs:Sg m sep)(h:∀z∈zs,Sg n z)(hk:zs.length * (n + m)<=k):Sg k (Txt.join sep zs):=by
 rw[join_eq]
 exact(Sg.join' hs h).mono hk
theorem sum_len{n:Nat}:∀{zs:List Str},(∀z∈zs,Sg n z)->(zs.map (·.length)).sum<=zs.length * n
 | [],_=>by simp
 | z::r,h=>by
  have:=sum_len fun x hx=>h x (List.mem_cons_of_mem _ hx)
  have:=(h z List.mem_cons_self).len
  simp only[List.map_cons,List.sum_cons,List.length_cons,Nat.add_mul,Nat.one_mul]
  omega
theorem join_fits{n m:Nat}{sep:Str}{zs:List Str}(hs:Sg m sep)(h:∀z∈zs,Sg n z)(hk:zs.length * n + zs.length * m<=16777216):(zs.map (·.length)).sum + zs.length * sep.length<=16777216:=by
 have h1:=sum_len h
 have h2:=Nat.mul_le_mul_left zs.length hs.len
 omega
theorem Sg.slice{n:Nat}{z:Str}(h:Sg n z)(lo hi:Option Int):Sg n (Txt.slice z lo hi):=by
 refine⟨Nat.le_trans (Txt.slice_le z lo hi) h.len,?_⟩
 unfold Txt.slice
 split
 ·exact h.ok
 ·have ok:=h.ok
  unfold PyData.strOk at ok ⊢
  rw[Array.all_eq_true']at ok ⊢
  intro x hx
  rw[List.mem_toArray,List.mem_filterMap]at hx
  obtain⟨i,_,hi⟩:=hx
  exact ok x (Array.mem_of_getElem? hi)
def Z07:SpT:=fun ts Q=>∃(c k many:Int),ts=[.int c,.int k,.int many]/\0<=k/\k<=1000/\1<=many/\many<=10 ^ 12/\∀r:Int,0<=r->r < many->Q (.int r)
theorem Z5N:∀ts Q,Z07 ts Q->ts.length=3:=by rintro ts Q ⟨_,_,_,e,_⟩;subst e;rfl
def Z1Q:WS :=
 (sSet 4 (w2 rDivT (wVar 4) (w2 rPowT (wC (.int 10)) (wC (.int 10)))))
def Z1R:WS :=
 (sSeq (sSet 3 (w2 rModT (w2 rMulT (w2 rAddT (w2 rAddT (w2 rAddT (w2 rModT (wVar 0) (wC (.int 2147483647))) (w2 rMulT (w2 rMulT (wC (.int 7919)) (wVar 1)) (wVar 1))) (w2 rMulT (wC (.int 31)) (wVar 1))) (wC (.int 1))) (wC (.int 48271))) (wC (.int 2147483647))))
  (sSeq (sSet 3 (w2 rModT (w2 rAddT (w2 rAddT (w2 rMulT (wVar 3) (wVar 3)) (w2 rMulT (wC (.int 69621)) (wVar 1))) (wC (.int 7))) (wC (.int 2147483629))))
  (sRet (w2 rModT (w2 rModT (w2 rMulT (wVar 3) (wVar 3)) (wC (.int 2147483587))) (wVar 2)))))
def Z4c:WS :=
 (sSeq (sIf (tCmpT cGeT (wVar 0) (w2 rPowT (wC (.int 10)) (wC (.int 18)))) (sSeq (sSet 4 (wVar 0))
  (sSeq (sFor (iRange1 (aCons (wVar 1) aNil)) (gN 5) Z1Q)
  (sIf (tCmpT cGtT (wVar 4) (wC (.int 0))) (sRet (w2 rModT (w2 rModT (wVar 4) (w2 rPowT (wC (.int 10)) (wC (.int 10)))) (wVar 2))) sNext))) sNext)
  Z1R)
theorem draw_loop{D:DT}{c k many:Int}{s3:Slot}:∀(n:Nat)(lo v:Int)(s5:Slot),(∀v s5,D.nx [.val (.int c),.val (.int k),.val (.int many),s3,.val (.int v),s5]) →
  forT (gN 5) Z1Q (rangeT lo n) D [.val (.int c),.val (.int k),.val (.int many),s3,.val (.int v),s5]
 | 0,lo,v,s5,h=>by
  simp only[rangeT,forT]
  exact h _ _
 | n + 1,lo,v,s5,h=>by
  have ih:=fun v s5=>draw_loop (D:=D) (c:=c) (k:=k) (many:=many) (s3:=s3) n (lo + 1) v s5 h
  have cp:=cpow10 10 (by decide)
  have dv:DivOk (10 ^ Int.toNat 10):=divOk (by decide) (Lim.of (n:=11) (by decide) (by decide))
  simp only[rangeT,forT]
  generalize forT (gN 5) Z1Q (rangeT (lo + 1) n) D=F at ih ⊢
  unfold Z1Q
  walk_at "go"
  exact ih _ _
theorem draw_k0{Q:T->Prop}{c k many:Int}{s3 s4 s5:Slot}(h0:0<=k)(h1:k<=1000)(m0:1<=many)(h:∀r:Int,0<=r->r < many->Q (.int r)):Z1R {nx:=fun _=>Q .non,rt:=Q} [.val (.int c),.val (.int k),.val (.int many),s3,s4,s5]:=by
 have lk:Lim 4 k:=Lim.of (by omega) (by omega)
 have l7:Lim 4 (7919:Int):=Lim.of (by decide) (by decide)
 have l31:Lim 2 (31:Int):=Lim.of (by decide) (by decide)
 have l48:Lim 5 (48271:Int):=Lim.of (by decide) (by decide)
 have l69:Lim 5 (69621:Int):=Lim.of (by decide) (by decide)
 have f1:=fmod_pos c (b:=2147483647) (by decide)
 have a1:=(l7.mul lk).mul lk
 have a2:=l31.mul lk
 have a3:Lim 14 (c.fmod 2147483647 + 7919 * k * k + 31 * k + 1):=by
  have:=a1.bd
  have:=a2.bd
  exact Lim.of (by omega) (by omega)
 unfold Z1R
 walk_at "go"
 refine⟨mulOk (l7.mul lk) lk,mulOk l31 lk,mulOk a3 l48,by decide,?_⟩
 generalize ((c.fmod 2147483647 + 7919 * k * k + 31 * k + 1) * 48271)=u
 have f2:=fmod_pos u (b:=2147483647) (by decide)
 have a4:Lim 10 (u.fmod 2147483647):=Lim.of (by omega) (by omega)
 walk_at "go"
 generalize (u.fmod 2147483647 * u.fmod 2147483647 + 69621 * k + 7)=v
 have f3:=fmod_pos v (b:=2147483629) (by decide)
 have a5:Lim 10 (v.fmod 2147483629):=Lim.of (by omega) (by omega)
 walk_at "go"
 refine⟨by omega,?_⟩
 generalize ((v.fmod 2147483629 * v.fmod 2147483629).fmod 2147483587)=x
 have f4:=fmod_pos x (b:=many) (by omega)
 exact h _ f4.1 f4.2
theorem Z5Y:∀ts Q,Z07 ts Q->Z4c {nx:=fun _=>Q .non,rt:=Q} (startT 6 ts):=by
 rintro _ Q ⟨c,k,many,rfl,h0,h1,m0,m1,h⟩
 have cp:=cpow10 10 (by decide)
 have cp18:=cpow10 18 (by decide)
 have fin:∀s3 s4 s5:Slot,Z1R {nx:=fun _=>Q .non,rt:=Q} [.val (.int c),.val (.int k),.val (.int many),s3,s4,s5]:=fun s3 s4 s5=>draw_k0 h0 h1 m0 h
 unfold Z4c
 obtain⟨W0,hW0⟩:∃W,W=Z1Q:=⟨_,rfl⟩
 obtain⟨W1,hW1⟩:∃W,W=Z1R:=⟨_,rfl⟩
 rw[← hW0,← hW1]
 rw[← hW1]at fin
 walk_at "go"
 refine⟨fun _=>?_,fun _=>fin _ _ _⟩
 walk_at "go"
 refine⟨by omega,?_⟩
 rw[hW0]
 refine draw_loop _ _ _ _ fun v s5=>?_
 walk_at "go"
 refine⟨fun _=>?_,fun _=>fin _ _ _⟩
 walk_at "go"
 refine⟨by omega,?_⟩
 have f4:=fmod_pos (v.fmod (10 ^ Int.toNat 10)) (b:=many) (by omega)
 exact h _ f4.1 f4.2
def Z0Q:SpT:=fun ts Q=>∃(ns:List Int) (k:Int),ts=[.lst (ns.map T.int),.int k]/\0<=k/\∀v:Int,Q (.int v)
theorem Z57:∀ts Q,Z0Q ts Q->ts.length=2:=by rintro ts Q ⟨_,_,e,_⟩;subst e;rfl
def Z32:WS :=
 (sSeq (sIf (tCmpT cLtT (wVar 1) (wCB rLenT (aCons (wVar 0) aNil))) (sRet (w2 rIxTT (wVar 0) (wVar 1))) sNext)
  (sRet (wC (.int 0))))
theorem Z5q:∀ts Q,Z0Q ts Q->Z32 {nx:=fun _=>Q .non,rt:=Q} (startT 2 ts):=by
 rintro _ Q ⟨ns,k,rfl,h0,h⟩
 unfold Z32
 walk_at "go"
 rw[List.length_map]
 refine⟨fun z=>?_,fun z=>?_⟩
 ·obtain⟨v,_,e⟩:=atI_map h0 (of_decide_eq_true z)
  walk_at "go"
  rw[e]
  exact h v
 ·walk_at "go"
  exact h 0
def Z3o:SpT:=fun ts Q=>∃a b:Int,ts=[.int a,.int b]/\0<=a/\0 < b/\Lim 2000 b/\Q (fr a b)
theorem Z5Z:∀ts Q,Z3o ts Q->ts.length=2:=by rintro ts Q ⟨_,_,e,_⟩;subst e;rfl
def Z2q:WS :=
 (sPar 2 3 (aCons (wVar 3) (aCons (w2 rModT (wVar 2) (wVar 3)) aNil)))
def Z5z:WS :=
 (sSeq (sSet 2 (wVar 0))
  (sSeq (sSet 3 (wVar 1))
  (sSeq (sWhile (tCmpT cNeT (wVar 3) (wC (.int 0))) Z2q)
  (sRet (wTup (aCons (w2 rDivT (wVar 0) (wVar 2)) (aCons (w2 rDivT (wVar 1) (wVar 2)) aNil)))))))
theorem Z67:∀ts Q,Z3o ts Q->Z5z {nx:=fun _=>Q .non,rt:=Q} (startT 4 ts):=by
 rintro _ Q ⟨a,b,rfl,ha,hb,lb,h⟩
 have g0:0 < Int.gcd a b:=Int.gcd_pos_iff.mpr (Or.inr (by omega))
 have gl:(Int.gcd a b:Int).natAbs<=b.natAbs:=by
  have d:=Int.gcd_dvd_right a b
  have:=Int.natAbs_dvd_natAbs.mpr d
  exact Nat.le_of_dvd (by omega) this
 have dv:DivOk (Int.gcd a b:Int):=divOk (by omega) (lb.le gl)
 unfold Z5z
 walk_at "tw"
 refine⟨fun m τ=>∃x y:Int,τ=[.val (.int a),.val (.int b),.val (.int x),.val (.int y)]/\0<=x/\0<=y/\Int.gcd x y=Int.gcd a b/\m=y.natAbs,⟨_,_,_,rfl,ha,by omega,rfl,rfl⟩,?_⟩
 rintro m τ ⟨x,y,rfl,hx,hy,hg,rfl⟩
 unfold Z2q
 walk_at "tw"
 refine⟨fun c=>?_,fun c=>?_⟩
 ·have c':y≠0:=by simpa using c
  have f:=fmod_pos x (b:=y) (by omega)
  exact⟨c',_,fmod_abs_lt x c',_,_,rfl,by omega,f.1,by rw[gcd_step];exact hg,rfl⟩
 ·have e:y=0:=by simpa using c
  subst e
  rw[Int.gcd_zero_right]at hg
  have hx':x=(Int.gcd a b:Int):=by omega
  subst hx'
  unfold fr frN frD frG at h
  rw[if_neg (by omega)]at h
  exact⟨dv,dv,h⟩
theorem join_ok{sep:Str}{m n:Nat}{zs:List Str}{ts:List T}{Q:T->Prop}(hs:Sg m sep)(e:strsOf ts=some zs)(h:∀z∈zs,Sg n z)(hk:zs.length * n + zs.length * m<=16777216)(q:Q (.str (Txt.join sep zs))):rJoinT sep (.lst ts) Q:=by
 unfold rJoinT
 simp only
 rw[e]
 exact⟨join_fits hs h hk,q⟩
theorem slice_ix(x:Str)(l u:Option Int):(Txt.slice x l u).length<=(Builtin.Str.strSliceIndices l u 1 x.length).length:=by
 unfold Txt.slice
 split
 ·rename_i h
  simp only[Bool.and_eq_true,beq_iff_eq]at h
  omega
 ·show (List.filterMap _ _).toArray.size<=_
  rw[List.size_toArray]
  exact List.length_filterMap_le _ _
theorem slice_two{x:Str}{a:Int}(h0:0<=a)(h1:a<=x.length):(Txt.slice x none (some a)).length + (Txt.slice x (some a) none).length<=x.length:=by
 have g1:=slice_ix x none (some a)
 have g2:=slice_ix x (some a) none
 have e1:(Builtin.Str.strSliceIndices none (some a) 1 x.length).length<=a.toNat:=by
  unfold Builtin.Str.strSliceIndices sliceRange
  simp only[show (1:Int) > 0 by decide,if_true,List.length_map,List.length_range]
  split<;>(try split)<;>(try split)<;>(try simp only[Int.ediv_one])<;>omega
 have e2:(Builtin.Str.strSliceIndices (some a) none 1 x.length).length<=x.length - a.toNat:=by
  unfold Builtin.Str.strSliceIndices sliceRange
  simp only[show (1:Int) > 0 by decide,if_true,List.length_map,List.length_range]
  split<;>(try split)<;>(try split)<;>(try simp only[Int.ediv_one])<;>omega
 omega
def nmF(A B:Str)(k:Nat):Str:=A++((⟨#[97 + k * 7 % 26]⟩:Str)++Str.empty)++B
structure NmOk(A B:Str):Prop where
 a:Sg 6 A
 b:Sg 6 B
 len:A.length + B.length<=6
theorem one_sg{c:Nat}(h:c < 200):Sg 1 (⟨#[c]⟩:Str):=⟨Nat.le_refl _,by
 unfold PyData.strOk
 simp only[List.all_toArray,List.all_cons,List.all_nil,Bool.and_true,decide_eq_true_eq]
 omega⟩
theorem emp_len:(Str.empty).length=0:=by decide +kernel
theorem emp_sg0:Sg 0 Str.empty:=⟨by decide +kernel,by decide +kernel⟩
theorem nm_len{A B:Str}(k:Nat):(nmF A B k).length=A.length + B.length + 1:=by
 unfold nmF
 rw[Str.length_append,Str.length_append,Str.length_append,emp_len]
 have:(⟨#[97 + k * 7 % 26]⟩:Str).length=1:=rfl
 omega
theorem nm_sg{A B:Str}(h:NmOk A B)(k:Nat):Sg 7 (nmF A B k):=by
 refine⟨by rw[nm_len];have:=h.len;omega,?_⟩
 unfold nmF
 rw[strOk_app,strOk_app,strOk_app,h.a.ok,h.b.ok,emp_sg0.ok,(one_sg (c:=97 + k * 7 % 26) (by omega)).ok]
 rfl
theorem nm_inj{A B:Str}{j k:Nat}(hj:j < 16)(hk:k < 16)(e:nmF A B j=nmF A B k):j=k:=by
 unfold nmF at e
 have e1:=congrArg (fun s:Str=>s.cps.toList) e
 simp only[Str.cps_append,Array.toList_append,List.append_assoc]at e1
 have e2:=List.append_cancel_left e1
 have e3:97 + j * 7 % 26=97 + k * 7 % 26:=by
  have:=congrArg (fun l:List Nat=>l.head?) e2
  simpa using this
 omega
abbrev nmL(A B:Str):List T:=(List.range 16).map fun k=>T.str (nmF A B k)
def Z22:SpT:=fun ts Q=>∃c:Int,ts=[.int c,.int 16]/\∀A B,NmOk A B->Q (.lst (nmL A B))
theorem Z5A:∀ts Q,Z22 ts Q->ts.length=2:=by rintro ts Q ⟨_,e,_⟩;subst e;rfl
def Z1x:WE :=
 (w2 rIxST (wVar 1) (wCall Z07 (aCons (wVar 2) (aCons (w2 rAddT (wC (.int 3)) (wVar 0)) (aCons (wC (.int 26)) aNil)))))
def Z0R:WS :=
 (sSeq (sSet 7 (w2 rAddST (w2 rIxST (wVar 2) (w2 rModT (w2 rMulT (wVar 6) (wC (.int 7))) (wC (.int 26)))) (w2 rMulST (w2 rIxST (wVar 2) (w2 rDivT (wVar 6) (wC (.int 26)))) (wCB rIntT (aCons (wCmp cGtT (wVar 1) (wC (.int 26))) aNil)))))
  (sApp 5 (w2 rAddST (w2 rAddST (wSlS (wVar 3) wo0 (wo (wVar 4))) (wVar 7)) (wSlS (wVar 3) (wo (wVar 4)) wo0))))
def Z4n:WS :=
 (sSeq (sSet 2 (wC (.str (Str.ofString "abcdefghijklmnopqrstuvwxyz"))))
  (sSeq (sSet 3 (wJoin (wC (.str (Str.ofString ""))) (wComp (iRange1 (aCons (wCall Z07 (aCons (wVar 0) (aCons (wC (.int 0)) (aCons (wC (.int 7)) aNil)))) aNil)) (gN 0) tTrue Z1x 1 [2,0])))
  (sSeq (sSet 4 (wCall Z07 (aCons (wVar 0) (aCons (wC (.int 1)) (aCons (w2 rAddT (wCB rLenST (aCons (wVar 3) aNil)) (wC (.int 1))) aNil)))))
  (sSeq (sOwn 5 aNil)
  (sSeq (sFor (iRange1 (aCons (wVar 1) aNil)) (gN 6) Z0R)
  (sFrz 5 (sRet (wVar 5))))))))
abbrev abc:Str:=Str.ofString "abcdefghijklmnopqrstuvwxyz"
theorem abc_at:∀d:Nat,d < 26->atI abc.cps.toList (d:Int)=some (97 + d):=by decide +kernel
theorem abc_len:abc.length<=1000:=by decide +kernel
theorem stem_comp{c:Int}:∀(n:Nat)(i:Nat)(acc:List Str)(x:Slot)(Q:List T->Prop),i + n<=10->(∀z∈acc,Sg 1 z)->(∀zs:List Str,zs.length=acc.length + n->(∀z∈zs,Sg 1 z)->Q (zs.map T.str)) →
  compT (gN 0) tTrue Z1x (rangeT i n) (acc.map T.str) [x,.val (.str abc),.val (.int c)] Q
 | 0,i,acc,x,Q,_,ha,h=>by
  simp only[rangeT,compT]
  exact h acc (by omega) ha
 | n + 1,i,acc,x,Q,hi,ha,h=>by
  have i1:=fun (z:Str) (hz:Sg 1 z)=>stem_comp (c:=c) n (i + 1) (acc++[z]) (.val (.int i)) Q (by omega) (fun y hy=>by
   rcases List.mem_append.mp hy with w|w
   ·exact ha y w
   ·rw[List.mem_singleton.mp w];exact hz) (fun zs hl hz=>h zs (by rw[hl];simp;omega) hz)
  simp only[List.map_append,List.map_cons,List.map_nil]at i1
  simp only[rangeT,compT]
  rw[show ((i:Int) + 1)=((i + 1:Nat):Int) by simp]
  generalize compT (gN 0) tTrue Z1x (rangeT ((i + 1:Nat):Int) n)=F at i1 ⊢
  refine⟨fun _=>?_,fun z=>(by cases z)⟩
  unfold Z1x
  walk_at "go"
  refine⟨c,3 + (i:Int),26,rfl,by omega,by omega,by decide,by decide,fun r r0 r1=>?_⟩
  obtain⟨d,rfl⟩:∃d:Nat,r=d:=⟨r.toNat,by omega⟩
  refine⟨abc_len,?_⟩
  rw[abc_at d (by omega)]
  exact i1 _ (one_sg (by omega))
theorem names_b0{D:DT}{own:List T}{stem:Str}{at':Int}{k:Nat}{s0 s7:Slot}(hs:Sg 6 stem)(hk:k < 16)(hl:own.length < 900)(h:∀s7,D.nx [s0,.val (.int 16),.val (.str abc),.val (.str stem),.val (.int at'),.own (own++[.str (nmF (Txt.slice stem none (some at')) (Txt.slice stem (some at') none) k)]),.val (.int k),s7]) :
  Z0R D [s0,.val (.int 16),.val (.str abc),.val (.str stem),.val (.int at'),.own own,.val (.int k),s7]:=by
 have ed:((k:Int) * 7).fmod 26=((k * 7 % 26:Nat):Int):=by
  rw[Int.fmod_eq_emod_of_nonneg _ (by decide)]
  omega
 have m7:MulOk (k:Int) 7:=mulOkR (Lim.of (by decide) (by decide))
 have dv:DivOk (26:Int):=divOk (by decide) (Lim.of (n:=2) (by decide) (by decide))
 have e26:(k:Int).fdiv 26=((0:Nat):Int):=by
  rw[Int.fdiv_eq_ediv_of_nonneg _ (by decide)]
  omega
 have l1:=(hs.slice none (some at')).len
 have l2:=(hs.slice (some at') none).len
 have ls:=hs.len
 have hl':own.length < 1000:=by omega
 have h1:(⟨#[97 + k * 7 % 26]⟩:Str).length=1:=rfl
 have a1:=abc_at (k * 7 % 26) (by omega)
 have a2:=abc_at 0 (by decide)
 unfold Z0R
 walk_at "tw"
 rw[ed,a1]
 refine⟨m7,by decide,abc_len,dv,abc_len,?_⟩
 rw[e26,a2]
 have e0:repS (⟨#[97 + 0]⟩:Str) (if decide ((16:Int) > 26)=true then 1 else 0)=Str.empty:=by decide +kernel
 refine⟨Nat.le_refl _,by decide,by decide,?_⟩
 rw[e0]
 refine⟨by rw[h1,emp_len];decide,by omega,by rw[Str.length_append,h1,emp_len];omega,by omega,by rw[Str.length_append,Str.length_append,h1,emp_len];omega,hl',h _⟩
theorem range_snoc{α:Type}(f:Nat->α)(k:Nat):(List.range (k + 1)).map f=(List.range k).map f++[f k]:=by
 rw[List.range_succ,List.map_append]
 rfl
theorem names_loop{D:DT}{stem:Str}{at':Int}{s0:Slot}(hs:Sg 6 stem)(h:∀s6 s7,D.nx [s0,.val (.int 16),.val (.str abc),.val (.str stem),.val (.int at'),.own (nmL (Txt.slice stem none (some at')) (Txt.slice stem (some at') none)),s6,s7]):∀(n k:Nat)(s6 s7:Slot),k + n=16 →
  forT (gN 6) Z0R (rangeT k n) D [s0,.val (.int 16),.val (.str abc),.val (.str stem),.val (.int at'),.own ((List.range k).map fun k=>T.str (nmF (Txt.slice stem none (some at')) (Txt.slice stem (some at') none) k)),s6,s7]
 | 0,k,s6,s7,e=>by
  have:k=16:=by omega
  subst this
  simp only[rangeT,forT]
  exact h _ _
 | n + 1,k,s6,s7,e=>by
  have ih:=fun s6 s7=>names_loop (D:=D) hs h n (k + 1) s6 s7 (by omega)
  rw[range_snoc]at ih
  simp only[rangeT,forT]
  rw[show ((k:Int) + 1)=((k + 1:Nat):Int) by simp]
  generalize forT (gN 6) Z0R (rangeT ((k + 1:Nat):Int) n) D=F at ih ⊢
  exact names_b0 (D:={D with nx:=F,ct:=F,bk:=D.nx}) hs (by omega) (by rw[List.length_map,List.length_range];omega) fun s7=>ih _ _
theorem emp_sg:Sg 0 (Str.ofString ""):=⟨by decide +kernel,by decide +kernel⟩
theorem Z5O:∀ts Q,Z22 ts Q->Z4n {nx:=fun _=>Q .non,rt:=Q} (startT 8 ts):=by
 rintro _ Q ⟨c,rfl,h⟩
 unfold Z4n
 obtain⟨W0,hW0⟩:∃W,W=Z0R:=⟨_,rfl⟩
 obtain⟨W1,hW1⟩:∃W,W=Z1x:=⟨_,rfl⟩
 rw[← hW0,← hW1]
 walk_at "go"
 refine⟨c,0,7,rfl,by decide,by decide,by decide,by decide,fun r r0 r1=>?_⟩
 obtain⟨d,rfl⟩:∃d:Nat,r=d:=⟨r.toNat,by omega⟩
 refine⟨⟨by omega,by omega⟩,by rw[rangeT_length];omega,?_⟩
 rw[hW1,Int.toNat_natCast]
 refine stem_comp d 0 [] _ _ (by omega) (fun z hz=>absurd hz (by simp)) fun zs hl hz=>?_
 rw[List.length_nil,Nat.zero_add]at hl
 refine join_ok (n:=1) emp_sg (strsOf_map zs) hz (by omega) ?_
 have st:Sg 6 (Txt.join (Str.ofString "") zs):=Sg.join emp_sg hz (by omega)
 generalize Txt.join (Str.ofString "") zs=stem at st ⊢
 have ls:=st.len
 refine⟨by omega,?_⟩
 refine⟨c,1,(stem.length:Int) + 1,rfl,by decide,by decide,by omega,by omega,fun a a0 a1=>?_⟩
 walk_at "tw"
 refine⟨⟨by omega,by omega⟩,?_⟩
 rw[hW0]
 refine names_loop (D:={nx:=sFrz 5 (sRet (wVar 5)) {nx:=fun _=>Q .non,rt:=Q},rt:=Q}) st (fun s6 s7=>?_) 16 0 _ _ rfl
 walk_at "go"
 have:=slice_two (x:=stem) a0 (by omega)
 exact h _ _ ⟨st.slice _ _,st.slice _ _,by omega⟩
def Z1m:SpT:=fun ts Q=>∃(l:Tr) (w h:Int) (k:Nat),ts=[trT l,.tup [.int w,.int h],.int (k:Nat)]/\k < 4/\Q (plT (lvl l w h k))
theorem Z5B:∀ts Q,Z1m ts Q->ts.length=3:=by rintro ts Q ⟨_,_,_,_,e,_⟩;subst e;rfl
def Z4o:WS :=
 (sSeq (sAsg (gT 3 (gsC (gN 4) (gsC (gN 5) (gsC (gN 6) gs0)))) (wVar 0))
  (sSeq (sAsg (gT 2 (gsC (gN 7) (gsC (gN 8) gs0))) (wVar 1))
  (sSeq (sOwn 3 (aCons (wTup (aCons (wTup (aCons (wVar 4) (aCons (wVar 5) (aCons (wVar 6) aNil)))) (aCons (wTup (aCons (wVar 7) (aCons (wC (.int 0)) (aCons (wC (.int 0)) aNil)))) (aCons (wTup (aCons (wC (.int 0)) (aCons (wVar 8) (aCons (wC (.int 0)) aNil)))) aNil)))) (aCons (wTup (aCons (wTup (aCons (wVar 4) (aCons (wVar 5) (aCons (wVar 6) aNil)))) (aCons (wTup (aCons (wC (.int 0)) (aCons (wVar 8) (aCons (wC (.int 0)) aNil)))) (aCons (wTup (aCons (wVar 7) (aCons (wC (.int 0)) (aCons (wC (.int 0)) aNil)))) aNil)))) aNil)))
  (sSeq (sApp 3 (wTup (aCons (wTup (aCons (w2 rAddT (wVar 4) (wVar 7)) (aCons (w2 rAddT (wVar 5) (wVar 8)) (aCons (wVar 6) aNil)))) (aCons (wTup (aCons (w2 rSubT (wC (.int 0)) (wVar 7)) (aCons (wC (.int 0)) (aCons (wC (.int 0)) aNil)))) (aCons (wTup (aCons (wC (.int 0)) (aCons (w2 rSubT (wC (.int 0)) (wVar 8)) (aCons (wC (.int 0)) aNil)))) aNil)))))
  (sSeq (sApp 3 (wTup (aCons (wTup (aCons (w2 rAddT (wVar 4) (wVar 7)) (aCons (wVar 5) (aCons (wVar 6) aNil)))) (aCons (wTup (aCons (w2 rSubT (wC (.int 0)) (wVar 7)) (aCons (wC (.int 0)) (aCons (wC (.int 0)) aNil)))) (aCons (wTup (aCons (wC (.int 0)) (aCons (wVar 8) (aCons (wC (.int 0)) aNil)))) aNil)))))
  (sFrz 3 (sRet (w2 rIxTT (wVar 3) (wVar 2)))))))))
theorem Z5P:∀ts Q,Z1m ts Q->Z4o {nx:=fun _=>Q .non,rt:=Q} (startT 9 ts):=by
 rintro _ Q ⟨l,w,h,k,rfl,hk,q⟩
 have:k=0∨k=1∨k=2∨k=3:=by omega
 unfold Z4o
 rcases this with rfl|rfl|rfl|rfl <;>
 ·walk_at "go"
  exact q
def tipZ(k:Nat):Int:=if k=0∨k=2 then 1 else -1
def Z2n:SpT:=fun ts Q=>∃(p:Pl) (k:Nat),ts=[plT p,.int (k:Nat)]/\k < 4/\Q (trT (p.1.1 + 1,p.1.2.1,p.1.2.2 + tipZ k))
theorem Z60:∀ts Q,Z2n ts Q->ts.length=2:=by rintro ts Q ⟨_,_,e,_⟩;subst e;rfl
def Z58:WS :=
 (sSeq (sAsg (gT 3 (gsC (gN 2) (gsC (gN 3) (gsC (gN 4) gs0)))) (w2 rIxTT (wVar 0) (wC (.int 0))))
  (sRet (wTup (aCons (w2 rAddT (wVar 2) (wC (.int 1))) (aCons (wVar 3) (aCons (w2 rAddT (wVar 4) (w2 rIxTT (wLst (aCons (wC (.int 1)) (aCons (wNeg (wC (.int 1))) (aCons (wC (.int 1)) (aCons (wNeg (wC (.int 1))) aNil))))) (wVar 1))) aNil))))))
theorem Z68:∀ts Q,Z2n ts Q->Z58 {nx:=fun _=>Q .non,rt:=Q} (startT 5 ts):=by
 rintro _ Q ⟨p,k,rfl,hk,q⟩
 have:k=0∨k=1∨k=2∨k=3:=by omega
 unfold Z58
 rcases this with rfl|rfl|rfl|rfl <;>
 ·walk_at "go"
  exact q
def Z2r:SpT:=fun ts Q=>∃(c:Int) (W H:Nat),ts=[.int c,.tup [.int W,.int H]]/\W<=10/\H<=10/\∀x y w h m:Int,(-4<=x/\x<=11)->(-4<=y/\y<=11)->(1<=w/\w<=7)->(1<=h/\h<=7)->(-1<=m/\m<=4)->Q (.tup [.int x,.int y,.int w,.int h,.int m])
theorem Z5C:∀ts Q,Z2r ts Q->ts.length=2:=by rintro ts Q ⟨_,_,_,e,_⟩;subst e;rfl
def Z3J:WS :=
 (sSeq (sSet 2 (w2 rSubT (wCall Z07 (aCons (wVar 0) (aCons (wC (.int 0)) (aCons (w2 rAddT (w2 rIxTT (wVar 1) (wC (.int 0))) (wC (.int 6))) aNil)))) (wC (.int 4))))
  (sSeq (sSet 3 (w2 rSubT (wCall Z07 (aCons (wVar 0) (aCons (wC (.int 1)) (aCons (w2 rAddT (w2 rIxTT (wVar 1) (wC (.int 1))) (wC (.int 6))) aNil)))) (wC (.int 4))))
  (sRet (wTup (aCons (wVar 2) (aCons (wVar 3) (aCons (w2 rAddT (wC (.int 1)) (wCall Z07 (aCons (wVar 0) (aCons (wC (.int 2)) (aCons (wC (.int 7)) aNil))))) (aCons (w2 rAddT (wC (.int 1)) (wCall Z07 (aCons (wVar 0) (aCons (wC (.int 3)) (aCons (wC (.int 7)) aNil))))) (aCons (w2 rSubT (wCall Z07 (aCons (wVar 0) (aCons (wC (.int 4)) (aCons (wC (.int 6)) aNil)))) (wC (.int 1))) aNil)))))))))
theorem Z5Q:∀ts Q,Z2r ts Q->Z3J {nx:=fun _=>Q .non,rt:=Q} (startT 4 ts):=by
 rintro _ Q ⟨c,W,H,rfl,hW,hH,q⟩
 unfold Z3J
 walk_at "go"
 refine⟨c,0,W + 6,rfl,by decide,by decide,by omega,by omega,fun x x0 x1=>?_⟩
 walk_at "go"
 refine⟨c,1,H + 6,rfl,by decide,by decide,by omega,by omega,fun y y0 y1=>?_⟩
 walk_at "go"
 refine⟨c,2,7,rfl,by decide,by decide,by decide,by decide,fun w w0 w1=>?_⟩
 walk_at "go"
 refine⟨c,3,7,rfl,by decide,by decide,by decide,by decide,fun h h0 h1=>?_⟩
 walk_at "go"
 refine⟨c,4,6,rfl,by decide,by decide,by decide,by decide,fun m m0 m1=>?_⟩
 walk_at "go"
 exact q _ _ _ _ _ (by omega) (by omega) (by omega) (by omega) (by omega)
structure SdOk(s:Shd):Prop where
 x:-4<=s.X/\s.X<=11
 y:-4<=s.Y/\s.Y<=11
 w:1<=s.w/\s.w<=7
 h:1<=s.h/\s.h<=7
 m:-1<=s.m/\s.m<=4
 way:s.way < 4
structure DrOk(l d:Tr):Prop where
 l1:-20<=l.1/\l.1<=20
 l2:-20<=l.2.1/\l.2.1<=20
 l3:-20<=l.2.2/\l.2.2<=20
 d1:-3<=d.1/\d.1<=3
 d2:-3<=d.2.1/\d.2.1<=3
 d3:1<=d.2.2/\d.2.2<=3
abbrev tipP(p:Pl)(k:Nat):Tr:=(p.1.1 + 1,p.1.2.1,p.1.2.2 + tipZ k)
def wlsF(A B:Str)(l d:Tr):Nat->List Shd->List Th
 | _,[]=>[]
 | k,s::r=>(if k % 2=0 then [(nmF A B (1 + k),shAt l d s,none)] else [])++wlsF A B l d (k + 1) r
def dlsF(A B:Str)(l d:Tr):Nat->List Shd->List Th
 | _,[]=>[]
 | k,s::r=>(if k % 2=0 then [] else [(nmF A B (1 + k),shAt l d s,some (tipP (shAt l d s) s.way))])++dlsF A B l d (k + 1) r
abbrev qT(q:BX):T:=.tup [.int q.1,.int q.2.1,.int q.2.2.1,.int q.2.2.2]
abbrev bx4(s:Shd):BX:=(s.X,s.Y,s.w,s.h)
abbrev noS(d:Tr)(s:Shd):Shd:=⟨s.X + s.m * d.1,s.Y + s.m * d.2.1,s.w,s.h,s.m * d.2.2,s.way⟩
def shF(ps:List Shd):List BX:=(ps.filter fun s=>decide (0 < s.m)).map bx4
def noF(d:Tr)(ps:List Shd):List BX:=(ps.filter fun s=>decide (0 < s.m)).map fun s=>bx4 (noS d s)
abbrev fceP(l:Tr)(W H:Nat)(down:Bool):Pl:=lvl l W H (if down then 1 else 0)
abbrev fceD(A B:Str)(l:Tr)(W H:Nat)(down:Bool):Th:=(nmF A B 0,fceP l W H down,some (tipP (fceP l W H down) (if down then 1 else 0)))
def Z2y:SpT:=fun ts Q=>∃(ns:List Int) (W H:Nat) (l d:Tr) (A B:Str),ts=[.lst (ns.map T.int),.tup [.int W,.int H],trT l,trT d,.lst (nmL A B)]/\W<=10/\H<=10/\DrOk l d ∧
 ∀(down:Bool)(ps:List Shd)(a:Nat),ps.length<=15->(∀s∈ps,SdOk s)->Q (.lst [.lst ((wlsF A B l d 0 ps).map thT),.lst (((dlsF A B l d 0 ps).take a++fceD A B l W H down::(dlsF A B l d 0 ps).drop a).map thT),.lst ((shF ps).map qT),.int (if down then 1 else 0),.lst ((noF d ps).map qT)])
theorem Z5R:∀ts Q,Z2y ts Q->ts.length=5:=by rintro ts Q ⟨_,_,_,_,_,_,_,e,_⟩;subst e;rfl
def Z1S:WS :=
 (sIf (tCmpT cGtT (wVar 21) (wC (.int 0))) (sSeq (sApp 9 (wTup (aCons (wVar 17) (aCons (wVar 18) (aCons (wVar 19) (aCons (wVar 20) aNil))))))
  (sApp 10 (wTup (aCons (w2 rAddT (wVar 17) (w2 rMulT (wVar 21) (w2 rIxTT (wVar 3) (wC (.int 0))))) (aCons (w2 rAddT (wVar 18) (w2 rMulT (wVar 21) (w2 rIxTT (wVar 3) (wC (.int 1))))) (aCons (wVar 19) (aCons (wVar 20) aNil))))))) sNext)
def Z15:WS :=
 (sSeq (sAsg (gT 5 (gsC (gN 17) (gsC (gN 18) (gsC (gN 19) (gsC (gN 20) (gsC (gN 21) gs0)))))) (wCall Z2r (aCons (wVar 13) (aCons (wVar 1) aNil))))
  (sSeq (sSet 14 (wTup (aCons (w2 rAddT (w2 rAddT (w2 rIxTT (wVar 2) (wC (.int 0))) (wVar 17)) (w2 rMulT (wVar 21) (w2 rIxTT (wVar 3) (wC (.int 0))))) (aCons (w2 rAddT (w2 rAddT (w2 rIxTT (wVar 2) (wC (.int 1))) (wVar 18)) (w2 rMulT (wVar 21) (w2 rIxTT (wVar 3) (wC (.int 1))))) (aCons (w2 rAddT (w2 rIxTT (wVar 2) (wC (.int 2))) (w2 rMulT (wVar 21) (w2 rIxTT (wVar 3) (wC (.int 2))))) aNil)))))
  (sSeq (sSet 15 (wCall Z07 (aCons (wVar 13) (aCons (wC (.int 5)) (aCons (wC (.int 4)) aNil)))))
  (sSeq (sSet 16 (wCall Z1m (aCons (wVar 14) (aCons (wTup (aCons (wVar 19) (aCons (wVar 20) aNil))) (aCons (wVar 15) aNil)))))
  (sSeq (sIf (tCmpT cEqT (w2 rModT (wVar 12) (wC (.int 2))) (wC (.int 0))) (sApp 7 (wTup (aCons (w2 rIxTT (wVar 4) (w2 rAddT (wC (.int 1)) (wVar 12))) (aCons (wVar 16) aNil)))) (sApp 8 (wTup (aCons (w2 rIxTT (wVar 4) (w2 rAddT (wC (.int 1)) (wVar 12))) (aCons (wVar 16) (aCons (wCall Z2n (aCons (wVar 16) (aCons (wVar 15) aNil))) aNil))))))
  Z1S)))))
def Z1y:WS :=
 (sSeq (sOwn 7 aNil)
  (sSeq (sOwn 8 (aCons (wTup (aCons (w2 rIxTT (wVar 4) (wC (.int 0))) (aCons (wVar 5) (aCons (wCall Z2n (aCons (wVar 5) (aCons (wVar 6) aNil))) aNil)))) aNil))
  (sSeq (sOwn 9 aNil)
  (sSeq (sOwn 10 aNil)
  (sSeq (sFor (iEnum (aCons (wSl (wVar 0) (wo (wC (.int 3))) (wo (wC (.int 18)))) aNil)) (gT 2 (gsC (gN 12) (gsC (gN 13) gs0))) Z15)
  (sSeq (sSet 11 (wCall Z07 (aCons (wCall Z0Q (aCons (wVar 0) (aCons (wC (.int 0)) aNil))) (aCons (wC (.int 21)) (aCons (wC (.int 3)) aNil)))))
  (sFrz 8 (sFrz 10 (sFrz 9 (sFrz 7 (sRet (wLst (aCons (wVar 7) (aCons (w2 rCatLT (w2 rCatLT (wSl (wVar 8) (wo (wC (.int 1))) (wo (w2 rAddT (wC (.int 1)) (wVar 11)))) (wSl (wVar 8) wo0 (wo (wC (.int 1))))) (wSl (wVar 8) (wo (w2 rAddT (wC (.int 1)) (wVar 11))) wo0)) (aCons (wVar 9) (aCons (wVar 6) (aCons (wVar 10) aNil)))))))))))))))))
def Z59:WS :=
 (sSeq (sSet 5 (wCall Z1m (aCons (wVar 2) (aCons (wVar 1) (aCons (wC (.int 0)) aNil)))))
  (sSeq (sSet 6 (wCB rIntT (aCons (wCmp cEqT (wCall Z07 (aCons (wCall Z0Q (aCons (wVar 0) (aCons (wC (.int 0)) aNil))) (aCons (wC (.int 20)) (aCons (wC (.int 6)) aNil)))) (wC (.int 1))) aNil)))
  (sSeq (sIf (tCmpT cEqT (wVar 6) (wC (.int 1))) (sSet 5 (wCall Z1m (aCons (wVar 2) (aCons (wVar 1) (aCons (wC (.int 1)) aNil))))) sNext)
  Z1y)))
theorem nm_at(A B:Str){k:Nat}(hk:k < 16):atI (nmL A B) (k:Int)=some (.str (nmF A B k)):=at_nat (f:=fun k=>T.str (nmF A B k)) (l:=List.range 16) (by rw[List.getElem?_range hk])
theorem lim3{i:Int}(h1:-1000 < i)(h2:i < 1000):Lim 3 i:=Lim.of (by show -1000 < i;omega) (by show i < 1000;omega)
theorem yard_b0{D:DT}{W H:Nat}{l d:Tr}{A B:Str}{c:Int}{k:Nat}{S0 s5 s6 s11 s14 s15 s16 s17 s18 s19 s20 s21:Slot}{aw ad as an:List T}(hW:W<=10)(hH:H<=10)(O:DrOk l d)(hk:k < 15)(lw:aw.length < 100)(ld:ad.length < 100)(ls:as.length < 100)(ln:an.length < 100)
  (h:∀s,SdOk s->∀s14 s15 s16 s17 s18 s19 s20 s21,D.nx [S0,.val (.tup [.int W,.int H]),.val (trT l),.val (trT d),.val (.lst (nmL A B)),s5,s6,.own (aw++(if k % 2=0 then [thT (nmF A B (1 + k),shAt l d s,none)] else [])),.own (ad++(if k % 2=0 then [] else [thT (nmF A B (1 + k),shAt l d s,some (tipP (shAt l d s) s.way))])),.own (as++(if 0 < s.m then [qT (bx4 s)] else [])),.own (an++(if 0 < s.m then [qT (bx4 (noS d s))] else [])),s11,.val (.int k),.val (.int c),s14,s15,s16,s17,s18,s19,s20,s21]) :
  Z15 D [S0,.val (.tup [.int W,.int H]),.val (trT l),.val (trT d),.val (.lst (nmL A B)),s5,s6,.own aw,.own ad,.own as,.own an,s11,.val (.int k),.val (.int c),s14,s15,s16,s17,s18,s19,s20,s21]:=by
 have ld1:=lim3 (i:=d.1) (by have:=O.d1;omega) (by have:=O.d1;omega)
 have ld2:=lim3 (i:=d.2.1) (by have:=O.d2;omega) (by have:=O.d2;omega)
 have ld3:=lim3 (i:=d.2.2) (by have:=O.d3;omega) (by have:=O.d3;omega)
 have hn:=nm_at A B (k:=1 + k) (by omega)
 rw[show (((1 + k:Nat):Int))=1 + (k:Int) by omega]at hn
 have em:(k:Int).fmod 2=((k % 2:Nat):Int):=by rw[Int.fmod_eq_emod_of_nonneg _ (by decide)];omega
 have lw':aw.length < 1000:=by omega
 have ld':ad.length < 1000:=by omega
 have ls':as.length < 1000:=by omega
 have ln':an.length < 1000:=by omega
 unfold Z15
 obtain⟨SL,hSL⟩:∃S,S=Z1m:=⟨_,rfl⟩
 obtain⟨ST,hST⟩:∃S,S=Z2n:=⟨_,rfl⟩
 obtain⟨K0,hK0⟩:∃S,S=Z1S:=⟨_,rfl⟩
 obtain⟨N,hN⟩:∃N,N=nmL A B:=⟨_,rfl⟩
 rw[← hN]at h hn
 rw[← hSL,← hST,← hK0,← hN]
 walk_at "go"
 refine⟨c,W,H,rfl,hW,hH,fun x y w hh m hx hy hw hhh hm=>?_⟩
 have lm:=lim3 (i:=m) (by omega) (by omega)
 have mo1:=mulOk lm ld1
 have mo2:=mulOk lm ld2
 have mo3:=mulOk lm ld3
 walk_at "go"
 refine⟨c,5,4,rfl,by decide,by decide,by decide,by decide,fun r r0 r1=>?_⟩
 obtain⟨q,rfl⟩:∃q:Nat,r=q:=⟨r.toNat,by omega⟩
 have hq:q < 4:=by omega
 have sk:SdOk ⟨x,y,w,hh,m,q⟩:=⟨hx,hy,hw,hhh,hm,hq⟩
 have H0:=h _ sk
 have k0:∀aw' ad' s14 s15 s16,aw++(if k % 2=0 then [thT (nmF A B (1 + k),shAt l d ⟨x,y,w,hh,m,q⟩,none)] else [])=aw'->ad++(if k % 2=0 then [] else [thT (nmF A B (1 + k),shAt l d ⟨x,y,w,hh,m,q⟩,some (tipP (shAt l d ⟨x,y,w,hh,m,q⟩) q))])=ad' →
   K0 D [S0,.val (.tup [.int W,.int H]),.val (trT l),.val (trT d),.val (.lst N),s5,s6,.own aw',.own ad',.own as,.own an,s11,.val (.int k),.val (.int c),s14,s15,s16,.val (.int x),.val (.int y),.val (.int w),.val (.int hh),.val (.int m)]:=fun aw' ad' s14 s15 s16 e1 e2=>by
  simp only[e1,e2]at H0
  rw[hK0]
  unfold Z1S
  walk_at "tw"
  by_cases z:0 < m
  ·refine⟨fun _=>⟨ls',mo1,mo2,ln',?_⟩,fun c=>absurd z (of_decide_eq_false c)⟩
   have:=H0 s14 s15 s16 (.val (.int x)) (.val (.int y)) (.val (.int w)) (.val (.int hh)) (.val (.int m))
   simp only[if_pos z]at this
   exact this
  ·refine⟨fun c=>absurd (of_decide_eq_true c) z,fun _=>?_⟩
   have:=H0 s14 s15 s16 (.val (.int x)) (.val (.int y)) (.val (.int w)) (.val (.int hh)) (.val (.int m))
   simp only[if_neg z,List.append_nil]at this
   exact this
 have lv:∀Q:T->Prop,Q (plT (shAt l d ⟨x,y,w,hh,m,q⟩))->SL [trT (l.1 + x + m * d.1,l.2.1 + y + m * d.2.1,l.2.2 + m * d.2.2),.tup [.int w,.int hh],.int (q:Nat)] Q:=fun Q hQ=>by rw[hSL];exact⟨_,w,hh,q,rfl,hq,hQ⟩
 have tp:∀(p:Pl)(Q:T->Prop),Q (trT (tipP p q))->ST [plT p,.int (q:Nat)] Q:=fun p Q hQ=>by rw[hST];exact⟨p,q,rfl,hq,hQ⟩
 generalize shAt l d ⟨x,y,w,hh,m,q⟩=pl at k0 lv
 walk_at "go"
 refine lv _ ?_
 walk_at "go"
 rw[em]
 by_cases z:k % 2=0
 ·simp only[if_pos z,List.append_nil]at k0
  refine⟨fun _=>?_,fun c=>absurd (show (((k % 2:Nat):Int)=0) by omega) (of_decide_eq_false c)⟩
  walk_at "go"
  rw[hn]
  walk_at "go"
  exact k0 _ _ _ _ _ rfl rfl
 ·simp only[if_neg z,List.append_nil]at k0
  refine⟨fun c=>absurd (of_decide_eq_true c) (show ¬ (((k % 2:Nat):Int)=0) by omega),fun _=>?_⟩
  walk_at "go"
  rw[hn]
  walk_at "go"
  refine tp pl _ ?_
  walk_at "go"
  exact k0 _ _ _ _ _ rfl rfl
theorem map_if{α:Type}{f:α->T}{P:Prop} [Decidable P] {a:α}:(if P then [f a] else [])=(if P then [a] else []).map f:=by split<;>rfl
theorem map_if'{α:Type}{f:α->T}{P:Prop} [Decidable P] {a:α}:(if P then [] else [f a])=(if P then [] else [a]).map f:=by split<;>rfl
theorem shF_cons(s:Shd)(ps:List Shd):shF (s::ps)=(if 0 < s.m then [bx4 s] else [])++shF ps:=by
 unfold shF
 rw[List.filter_cons]
 by_cases z:0 < s.m
 ·rw[if_pos (decide_eq_true z),if_pos z];rfl
 ·rw[if_neg (by rw[decide_eq_false z];decide),if_neg z];rfl
theorem noF_cons(d:Tr)(s:Shd)(ps:List Shd):noF d (s::ps)=(if 0 < s.m then [bx4 (noS d s)] else [])++noF d ps:=by
 unfold noF
 rw[List.filter_cons]
 by_cases z:0 < s.m
 ·rw[if_pos (decide_eq_true z),if_pos z];rfl
 ·rw[if_neg (by rw[decide_eq_false z];decide),if_neg z];rfl
theorem yard_loop{D:DT}{W H:Nat}{l d:Tr}{A B:Str}{S0 s5 s6 s11:Slot}(hW:W<=10)(hH:H<=10)(O:DrOk l d):∀(r:List Int)(k:Nat)(aw ad:List Th)(as an:List BX)(s12 s13 s14 s15 s16 s17 s18 s19 s20 s21:Slot),k + r.length<=15->aw.length<=k->ad.length<=k + 1->as.length<=k->an.length<=k →
  (∀(ps:List Shd)(s12 s13 s14 s15 s16 s17 s18 s19 s20 s21:Slot),ps.length=r.length->(∀s∈ps,SdOk s)->D.nx [S0,.val (.tup [.int W,.int H]),.val (trT l),.val (trT d),.val (.lst (nmL A B)),s5,s6,.own ((aw++wlsF A B l d k ps).map thT),.own ((ad++dlsF A B l d k ps).map thT),.own ((as++shF ps).map qT),.own ((an++noF d ps).map qT),s11,s12,s13,s14,s15,s16,s17,s18,s19,s20,s21]) →
  forT (gT 2 (gsC (gN 12) (gsC (gN 13) gs0))) Z15 (enumT k (r.map T.int)) D [S0,.val (.tup [.int W,.int H]),.val (trT l),.val (trT d),.val (.lst (nmL A B)),s5,s6,.own (aw.map thT),.own (ad.map thT),.own (as.map qT),.own (an.map qT),s11,s12,s13,s14,s15,s16,s17,s18,s19,s20,s21]
 | [],k,aw,ad,as,an,s12,s13,s14,s15,s16,s17,s18,s19,s20,s21,_,_,_,_,_,h=>by
  simp only[List.map,enumT,forT]
  have:=h [] s12 s13 s14 s15 s16 s17 s18 s19 s20 s21 rfl (fun s hs=>absurd hs (by simp))
  simpa [wlsF,dlsF,shF,noF] using this
 | c::r,k,aw,ad,as,an,s12,s13,s14,s15,s16,s17,s18,s19,s20,s21,hk,h1,h2,h3,h4,h=>by
  simp only[List.length_cons]at hk
  have ih:=fun (s:Shd) (hs:SdOk s)=>yard_loop (D:=D) (A:=A) (B:=B) (S0:=S0) (s5:=s5) (s6:=s6) (s11:=s11) hW hH O r (k + 1) (aw++(if k % 2=0 then [(nmF A B (1 + k),shAt l d s,none)] else [])) (ad++(if k % 2=0 then [] else [(nmF A B (1 + k),shAt l d s,some (tipP (shAt l d s) s.way))])) (as++(if 0 < s.m then [bx4 s] else [])) (an++(if 0 < s.m then [bx4 (noS d s)] else []))
  simp only[List.map_cons,enumT,forT]
  generalize forT (gT 2 (gsC (gN 12) (gsC (gN 13) gs0))) Z15 (enumT (k + 1) (r.map T.int)) D=F at ih ⊢
  simp only[gT,gsC,gs0,gN,sput,List.length_cons,List.length_nil,true_and]
  refine yard_b0 (D:={D with nx:=F,ct:=F,bk:=D.nx}) hW hH O (by omega) (by rw[List.length_map];omega) (by rw[List.length_map];omega) (by rw[List.length_map];omega) (by rw[List.length_map];omega) fun s hs s14 s15 s16 s17 s18 s19 s20 s21=>?_
  have:=ih s hs (.val (.int k)) (.val (.int c)) s14 s15 s16 s17 s18 s19 s20 s21 (by omega) (by split<;>simp<;>omega) (by split<;>simp<;>omega) (by split<;>simp<;>omega) (by split<;>simp<;>omega) (fun ps s12 s13 s14 s15 s16 s17 s18 s19 s20 s21 hp hps=>by
   have:=h (s::ps) s12 s13 s14 s15 s16 s17 s18 s19 s20 s21 (by simp[hp]) (fun t ht=>by
    rcases List.mem_cons.mp ht with rfl|ht
    ·exact hs
    ·exact hps t ht)
   rw[shF_cons,noF_cons]at this
   simp only[wlsF,dlsF,← List.append_assoc]at this
   exact this)
  rw[map_if,map_if',map_if (f:=qT),map_if (f:=qT),← List.map_append,← List.map_append,← List.map_append,← List.map_append]
  exact this
theorem cut_dials(x:T)(ds:List T)(a:Nat):cutT (x::ds) (some 1) (some ((1:Int) + a))++cutT (x::ds) none (some 1)++cutT (x::ds) (some ((1:Int) + a)) none=ds.take a++x::ds.drop a:=by
 unfold cutT
 have e1:HT.sIx (x::ds).length 0 (some 1)=1:=by
  have:=HT.sIx_nat (x::ds).length 0 1
  rw[show ((1:Nat):Int)=1 from rfl]at this
  rw[this,List.length_cons]
  omega
 have e1':HT.sIx (x::ds).length (x::ds).length (some 1)=1:=by
  have:=HT.sIx_nat (x::ds).length (x::ds).length 1
  rw[show ((1:Nat):Int)=1 from rfl]at this
  rw[this,List.length_cons]
  omega
 have e2:∀dd,HT.sIx (x::ds).length dd (some ((1:Int) + a))=min (1 + a) (x::ds).length:=fun dd=>by
  rw[show ((1:Int) + a)=((1 + a:Nat):Int) by omega,HT.sIx_nat]
 rw[e1,e1',e2,e2,HT.sIx_none,HT.sIx_none]
 simp only[List.length_cons,List.drop_zero,Nat.sub_zero]
 by_cases z:a<=ds.length
 ·rw[Nat.min_eq_left (by omega),show 1 + a=a + 1 by omega,List.drop_succ_cons,List.drop_succ_cons,Nat.add_sub_cancel,List.drop_zero,List.take_succ_cons,List.take_zero,List.append_assoc]
  rw[List.take_of_length_le (l:=ds.drop a) (by simp)]
  rfl
 ·rw[Nat.min_eq_right (by omega),List.drop_succ_cons,List.drop_succ_cons,Nat.add_sub_cancel,List.drop_zero,List.take_succ_cons,List.take_zero,List.append_assoc]
  rw[List.take_of_length_le (l:=ds) (by omega),List.drop_of_length_le (by omega),List.take_of_length_le (l:=ds) (by omega),List.drop_of_length_le (by omega)]
  simp
theorem Z61:∀ts Q,Z2y ts Q->Z59 {nx:=fun _=>Q .non,rt:=Q} (startT 22 ts):=by
 rintro _ Q ⟨ns,W,H,l,d,A,B,rfl,hW,hH,O,q⟩
 obtain⟨r,er,lr⟩:∃r:List Int,cutT (ns.map T.int) (some 3) (some 18)=r.map T.int/\r.length<=15:=by
  refine⟨(ns.drop (HT.sIx ns.length 0 (some 3))).take (HT.sIx ns.length ns.length (some 18) - HT.sIx ns.length 0 (some 3)),?_,?_⟩
  ·unfold cutT
   rw[List.length_map,List.map_take,List.map_drop]
  ·have a1:=HT.sIx_nat ns.length 0 3
   have a2:=HT.sIx_nat ns.length ns.length 18
   rw[show ((3:Nat):Int)=3 from rfl]at a1
   rw[show ((18:Nat):Int)=18 from rfl]at a2
   rw[a1,a2,List.length_take,List.length_drop]
   omega
 have n0:=nm_at A B (k:=0) (by decide)
 obtain⟨SL,hSL⟩:∃S,S=Z1m:=⟨_,rfl⟩
 obtain⟨ST,hST⟩:∃S,S=Z2n:=⟨_,rfl⟩
 have lv:∀(k:Nat)(Q:T->Prop),k < 4->Q (plT (lvl l W H k))->SL [trT l,.tup [.int W,.int H],.int (k:Nat)] Q:=fun k Q hk hQ=>by rw[hSL];exact⟨l,W,H,k,rfl,hk,hQ⟩
 have tp:∀(p:Pl)(k:Nat)(Q:T->Prop),k < 4->Q (trT (tipP p k))->ST [plT p,.int (k:Nat)] Q:=fun p k Q hk hQ=>by rw[hST];exact⟨p,k,rfl,hk,hQ⟩
 have k1:∀(down:Bool),Z1y {nx:=fun _=>Q .non,rt:=Q} [.val (.lst (ns.map T.int)),.val (.tup [.int W,.int H]),.val (trT l),.val (trT d),.val (.lst (nmL A B)),.val (plT (fceP l W H down)),.val (.int (if down then 1 else 0)),.no,.no,.no,.no,.no,.no,.no,.no,.no,.no,.no,.no,.no,.no,.no]:=fun down=>by
  have tp':∀Q:T->Prop,Q (trT (tipP (fceP l W H down) (if down then 1 else 0)))->ST [plT (fceP l W H down),.int (if down then 1 else 0)] Q:=fun Q hQ=>by
   cases down with
   | true=>exact tp _ 1 Q (by decide) hQ
   | false=>exact tp _ 0 Q (by decide) hQ
  unfold Z1y
  obtain⟨W0,hW0⟩:∃W,W=Z15:=⟨_,rfl⟩
  obtain⟨N,hN⟩:∃N,N=nmL A B:=⟨_,rfl⟩
  rw[← hN]at n0
  rw[← hW0,← hST,← hN]
  walk_at "tw"
  rw[show ((0:Nat):Int)=0 from rfl]at n0
  rw[n0]
  refine tp' _ ?_
  rw[er]
  rw[hW0,hN]
  refine yard_loop (aw:=[]) (ad:=[fceD A B l W H down]) (as:=[]) (an:=[]) hW hH O r 0 _ _ _ _ _ _ _ _ _ _ (by omega) (by simp) (by simp) (by simp) (by simp) fun ps s12 s13 s14 s15 s16 s17 s18 s19 s20 s21 hp hps=>?_
  have qq:=q down ps
  rw[List.nil_append,List.nil_append,List.nil_append,List.singleton_append]
  have dl:(dlsF A B l d 0 ps).length<=15:=by
   have:∀(ps:List Shd)(k:Nat),(dlsF A B l d k ps).length<=ps.length:=fun ps=>by
    induction ps with
    | nil=>intro k;simp[dlsF]
    | cons s r ih =>
     intro k
     have:=ih (k + 1)
     simp only[dlsF,List.length_append,List.length_cons]
     split<;>simp<;>omega
   have:=this ps 0
   omega
  generalize wlsF A B l d 0 ps=ww at qq ⊢
  generalize dlsF A B l d 0 ps=dd at qq dl ⊢
  walk_at "tw"
  refine⟨ns,0,rfl,by decide,fun c0=>?_⟩
  refine⟨c0,21,3,rfl,by decide,by decide,by decide,by decide,fun r r0 r1=>?_⟩
  obtain⟨a,rfl⟩:∃a:Nat,r=a:=⟨r.toNat,by omega⟩
  have cd:=cut_dials (thT (fceD A B l W H down)) (dd.map thT) a
  have l1:∀lo hi,(cutT (thT (fceD A B l W H down)::dd.map thT) lo hi).length<=16:=fun lo hi=>by
   unfold cutT
   simp only[List.length_take,List.length_drop,List.length_cons,List.length_map]
   omega
  have g1:=l1 (some 1) (some (1 + (a:Int)))
  have g2:=l1 none (some 1)
  have g3:=l1 (some (1 + (a:Int))) none
  refine⟨by omega,by rw[List.length_append];omega,?_⟩
  rw[cd]
  have:=qq a (by omega) hps
  rw[List.map_append,List.map_cons,List.map_take,List.map_drop]at this
  exact this
 unfold Z59
 obtain⟨K1,hK1⟩:∃W,W=Z1y:=⟨_,rfl⟩
 rw[← hK1]at k1 ⊢
 rw[← hSL]
 walk_at "go"
 refine lv 0 _ (by decide) ?_
 walk_at "go"
 refine⟨ns,0,rfl,by decide,fun c0=>?_⟩
 walk_at "go"
 refine⟨c0,20,6,rfl,by decide,by decide,by decide,by decide,fun r r0 r1=>?_⟩
 by_cases z:r=1
 ·subst z
  walk_at "go"
  refine lv 1 _ (by decide) ?_
  walk_at "tw"
  exact k1 true
 ·have e:decide (r=1)=false:=decide_eq_false z
  walk_at "tw"
  rw[e]
  exact⟨fun c=>absurd c (by decide),fun _=>k1 false⟩
abbrev q4(q:BX):BX:=(q.1,q.1 + q.2.2.1,q.2.1,q.2.1 + q.2.2.2)
abbrev clB(W H:Nat)(q:BX):BX:=meetB (q4 q) (0,W,0,H)
def litN(W H:Nat)(qs:List BX):Int:=W * H - cnt (covB (qs.map (clB W H))) H W
def manyN(W H:Nat)(qs:List BX):Nat:=((qs.map (clB W H)).filter nonE).length
def Z2J:SpT:=fun ts Q=>∃(W H:Nat) (qs:List BX),ts=[.tup [.int W,.int H],.lst (qs.map qT)]/\1<=W/\W<=10/\1<=H/\H<=10/\qs.length<=15/\(∀q∈qs,0 < q.2.2.1/\0 < q.2.2.2)/\(6 < manyN W H qs->Q .non)/\(¬ 6 < manyN W H qs->Q (fr (litN W H qs) (W * H)))
theorem Z62:∀ts Q,Z2J ts Q->ts.length=2:=by rintro ts Q ⟨_,_,_,e,_⟩;subst e;rfl
def Z1n:WS :=
 (sSeq (sSet 10 (wComp (iSeq (wVar 1)) (gN 0) (tAndT (tChainT cLeT cLtT (w2 rIxTT (wVar 0) (wC (.int 0))) (wVar 1) (w2 rAddT (w2 rIxTT (wVar 0) (wC (.int 0))) (w2 rIxTT (wVar 0) (wC (.int 2))))) (tChainT cLeT cLtT (w2 rIxTT (wVar 0) (wC (.int 1))) (wVar 2) (w2 rAddT (w2 rIxTT (wVar 0) (wC (.int 1))) (w2 rIxTT (wVar 0) (wC (.int 3)))))) (wVar 0) 1 [4,5]))
  (sSet 2 (w2 rAddT (wVar 2) (wCB rIntT (aCons (wCmp cEqT (wVar 10) (wLst aNil)) aNil)))))
def Z1C:WS :=
 (sFor (iRange1 (aCons (w2 rIxTT (wVar 0) (wC (.int 1))) aNil)) (gN 5) Z1n)
def Z1o:WS :=
 (sSeq (sSet 8 (w2 rSubT (wCB rMinT (aCons (w2 rAddT (w2 rIxTT (wVar 7) (wC (.int 0))) (w2 rIxTT (wVar 7) (wC (.int 2)))) (aCons (w2 rIxTT (wVar 0) (wC (.int 0))) aNil))) (wCB rMaxT (aCons (w2 rIxTT (wVar 7) (wC (.int 0))) (aCons (wC (.int 0)) aNil)))))
  (sSeq (sSet 9 (w2 rSubT (wCB rMinT (aCons (w2 rAddT (w2 rIxTT (wVar 7) (wC (.int 1))) (w2 rIxTT (wVar 7) (wC (.int 3)))) (aCons (w2 rIxTT (wVar 0) (wC (.int 1))) aNil))) (wCB rMaxT (aCons (w2 rIxTT (wVar 7) (wC (.int 1))) (aCons (wC (.int 0)) aNil)))))
  (sIf (tAndT (tCmpT cGtT (wVar 8) (wC (.int 0))) (tCmpT cGtT (wVar 9) (wC (.int 0)))) (sDSet 3 (wVar 6) (wC (.bl true))) sNext)))
def Z5D:WS :=
 (sSeq (sSet 2 (wC (.int 0)))
  (sSeq (sDNew 3)
  (sSeq (sFor (iRange1 (aCons (w2 rIxTT (wVar 0) (wC (.int 0))) aNil)) (gN 4) Z1C)
  (sSeq (sFor (iEnum (aCons (wVar 1) aNil)) (gT 2 (gsC (gN 6) (gsC (gN 7) gs0))) Z1o)
  (sSeq (sIf (tCmpT cGtT (wDLen 3) (wC (.int 6))) (sRet (wC .non)) sNext)
  (sRet (wCall Z3o (aCons (wVar 2) (aCons (w2 rMulT (w2 rIxTT (wVar 0) (wC (.int 0))) (w2 rIxTT (wVar 0) (wC (.int 1)))) aNil)))))))))
theorem eqT_nilL(us:List T):eqT (.lst us) (.lst [])=us.isEmpty:=by
 cases us with
 | nil=>rfl
 | cons a r=>rfl
theorem qT_ok(q:BX):Pn 1 (qT q):=Pn.tup fun x hx=>by
 simp only[List.mem_cons,List.not_mem_nil,or_false]at hx
 rcases hx with rfl|rfl|rfl|rfl<;>exact Pn.int _
theorem inB_cl{W H:Nat}{q:BX}{i j:Nat}(hi:i < W)(hj:j < H):inB (clB W H q) i j=inB (q4 q) i j:=by
 rw[inB_meet]
 have:inB (0,(W:Int),0,(H:Int)) i j=true:=decide_eq_true (by simp only;omega)
 rw[this,Bool.true_and]
theorem lit_b0{D:DT}{W H:Nat}{qs:List BX}{v:Int}{i j:Nat}{s3 s6 s7 s8 s9 s10:Slot}(hl:qs.length<=15)(h:∀us,D.nx [.val (.tup [.int W,.int H]),.val (.lst (qs.map qT)),.val (.int (v + (bif !qs.any (fun q=>inB (q4 q) i j) then 1 else 0))),s3,.val (.int (i:Nat)),.val (.int (j:Nat)),s6,s7,s8,s9,.val (.lst us)]) :
  Z1n D [.val (.tup [.int W,.int H]),.val (.lst (qs.map qT)),.val (.int v),s3,.val (.int (i:Nat)),.val (.int (j:Nat)),s6,s7,s8,s9,s10]:=by
 unfold Z1n
 walk_at "tw"
 refine⟨by rw[List.length_map];omega,?_⟩
 refine comp_filt (p:=fun q=>inB (q4 q) i j) (g:=qT) qs [] _ _ (fun q hq R hR=>?_) (fun q hq _ R hR=>hR) ?_
 ·unfold inB at hR
  walk_at "tw"
  have tr:∀(b:Bool),((q.1<=(i:Int)/\(i:Int) < q.1 + q.2.2.1/\q.2.1<=(j:Int)/\(j:Int) < q.2.1 + q.2.2.2) ↔ b=true)->R b:=fun b hb=>by
   have:decide ((q4 q).1<=(i:Int)/\(i:Int) < (q4 q).2.1/\(q4 q).2.2.1<=(j:Int)/\(j:Int) < (q4 q).2.2.2)=b:=by
    cases b with
    | true=>exact decide_eq_true (hb.mpr rfl)
    | false=>exact decide_eq_false fun z=>by have:=hb.mp z;cases this
   rw[this]at hR
   exact hR
  refine⟨fun c1=>⟨fun c2=>⟨fun c3=>tr (decide ((j:Int) < q.2.1 + q.2.2.2)) ?_,fun c3=>tr false ?_⟩,fun c2=>tr false ?_⟩,fun c1=>⟨fun z=>(by cases z),fun _=>tr false ?_⟩⟩
  ·have:=of_decide_eq_true c1
   have:=of_decide_eq_true c2
   have:=of_decide_eq_true c3
   rw[decide_eq_true_iff]
   omega
  ·have:=of_decide_eq_false c3
   simp
   omega
  ·have:=of_decide_eq_false c2
   simp
   omega
  ·have:=of_decide_eq_false c1
   simp
   omega
 rw[List.nil_append]
 have e:(qs.filter fun q=>inB (q4 q) i j).map qT=[] ↔ qs.any (fun q=>inB (q4 q) i j)=false:=by
  rw[List.map_eq_nil_iff,List.filter_eq_nil_iff,List.any_eq_false]
 refine⟨Pn.ok (n:=2) (m:=1) (Pn.lst fun t ht=>?_) (Pn.lst fun t ht=>absurd ht (by simp)) (by decide),?_⟩
 ·obtain⟨q,_,rfl⟩:=List.mem_map.mp ht
  exact qT_ok q
 rw[eqT_nilL]
 have:=h ((qs.filter fun q=>inB (q4 q) i j).map qT)
 generalize (qs.filter fun q=>inB (q4 q) i j).map qT=us at e this ⊢
 cases us with
 | nil=>rw[e.mp rfl]at this;exact this
 | cons a r =>
  have e2:qs.any (fun q=>inB (q4 q) i j)=true:=by
   cases z:qs.any (fun q=>inB (q4 q) i j) with
   | true=>rfl
   | false=>cases (e.mpr z)
  rw[e2]at this
  exact this
def nd1:Slot->Bool
 | .owd _ _=>false
 | _=>true
theorem noD_c{s:Slot}{r:List Slot}(h:nd1 s=true)(hr:noD r=true):noD (s::r)=true:=by
 cases s<;>first|exact hr|cases h
theorem lit_row{D:DT}{W H:Nat}{qs:List BX}{i:Nat}{s3 s6 s7 s8 s9:Slot}(hl:qs.length<=15):∀(n k:Nat)(v:Int)(s5 s10:Slot),nd1 s5=true->nd1 s10=true->(∀s5 s10,nd1 s5=true->nd1 s10=true->D.nx [.val (.tup [.int W,.int H]),.val (.lst (qs.map qT)),.val (.int (v + (cntR (fun j=>!qs.any (fun q=>inB (q4 q) i j)) (k + n) - cntR (fun j=>!qs.any (fun q=>inB (q4 q) i j)) k))),s3,.val (.int (i:Nat)),s5,s6,s7,s8,s9,s10]) →
  forT (gN 5) Z1n (rangeT (k:Nat) n) D [.val (.tup [.int W,.int H]),.val (.lst (qs.map qT)),.val (.int v),s3,.val (.int (i:Nat)),s5,s6,s7,s8,s9,s10]
 | 0,k,v,s5,s10,d5,d10,h=>by
  simp only[rangeT,forT]
  have:=h s5 s10 d5 d10
  rw[Nat.add_zero,Int.sub_self,Int.add_zero]at this
  exact this
 | n + 1,k,v,s5,s10,d5,d10,h=>by
  have ih:=fun s5 s10 d5 d10=>lit_row (D:=D) (W:=W) (H:=H) (i:=i) (s3:=s3) (s6:=s6) (s7:=s7) (s8:=s8) (s9:=s9) hl n (k + 1) (v + (bif !qs.any (fun q=>inB (q4 q) i k) then 1 else 0)) s5 s10 d5 d10 (fun s5 s10 d5 d10=>by
   have:=h s5 s10 d5 d10
   rw[show k + (n + 1)=k + 1 + n by omega]at this
   rw[show v + (bif !qs.any (fun q=>inB (q4 q) i k) then 1 else 0) + (cntR (fun j=>!qs.any (fun q=>inB (q4 q) i j)) (k + 1 + n) - cntR (fun j=>!qs.any (fun q=>inB (q4 q) i j)) (k + 1))=v + (cntR (fun j=>!qs.any (fun q=>inB (q4 q) i j)) (k + 1 + n) - cntR (fun j=>!qs.any (fun q=>inB (q4 q) i j)) k) by simp only[cntR];omega]
   exact this)
  simp only[rangeT,forT]
  rw[show ((k:Int) + 1)=((k + 1:Nat):Int) by simp]
  generalize forT (gN 5) Z1n (rangeT ((k + 1:Nat):Int) n) D=F at ih ⊢
  exact lit_b0 (D:={D with nx:=F,ct:=F,bk:=D.nx}) hl fun us=>ih _ _ rfl rfl
theorem lit_cols{D:DT}{W H:Nat}{qs:List BX}{s3 s6 s7 s8 s9:Slot}(hl:qs.length<=15)(hH:H<=10):∀(n k:Nat)(v:Int)(s4 s5 s10:Slot),nd1 s4=true->nd1 s5=true->nd1 s10=true->(∀s4 s5 s10,nd1 s4=true->nd1 s5=true->nd1 s10=true->D.nx [.val (.tup [.int W,.int H]),.val (.lst (qs.map qT)),.val (.int (v + (cnt (fun i j=>!qs.any (fun q=>inB (q4 q) i j)) H (k + n) - cnt (fun i j=>!qs.any (fun q=>inB (q4 q) i j)) H k))),s3,s4,s5,s6,s7,s8,s9,s10]) →
  forT (gN 4) Z1C (rangeT (k:Nat) n) D [.val (.tup [.int W,.int H]),.val (.lst (qs.map qT)),.val (.int v),s3,s4,s5,s6,s7,s8,s9,s10]
 | 0,k,v,s4,s5,s10,d4,d5,d10,h=>by
  simp only[rangeT,forT]
  have:=h s4 s5 s10 d4 d5 d10
  rw[Nat.add_zero,Int.sub_self,Int.add_zero]at this
  exact this
 | n + 1,k,v,s4,s5,s10,d4,d5,d10,h=>by
  have ih:=fun s4 s5 s10 d4 d5 d10=>lit_cols (D:=D) (W:=W) (H:=H) (s3:=s3) (s6:=s6) (s7:=s7) (s8:=s8) (s9:=s9) hl hH n (k + 1) (v + cntR (fun j=>!qs.any (fun q=>inB (q4 q) k j)) H) s4 s5 s10 d4 d5 d10 (fun s4 s5 s10 d4 d5 d10=>by
   have:=h s4 s5 s10 d4 d5 d10
   rw[show k + (n + 1)=k + 1 + n by omega]at this
   rw[show v + cntR (fun j=>!qs.any (fun q=>inB (q4 q) k j)) H + (cnt (fun i j=>!qs.any (fun q=>inB (q4 q) i j)) H (k + 1 + n) - cnt (fun i j=>!qs.any (fun q=>inB (q4 q) i j)) H (k + 1))=v + (cnt (fun i j=>!qs.any (fun q=>inB (q4 q) i j)) H (k + 1 + n) - cnt (fun i j=>!qs.any (fun q=>inB (q4 q) i j)) H k) by simp only[cnt];omega]
   exact this)
  simp only[rangeT,forT]
  rw[show ((k:Int) + 1)=((k + 1:Nat):Int) by simp]
  generalize forT (gN 4) Z1C (rangeT ((k + 1:Nat):Int) n) D=F at ih ⊢
  unfold Z1C
  obtain⟨W0,hW0⟩:∃W,W=Z1n:=⟨_,rfl⟩
  rw[← hW0]
  walk_at "tw"
  rw[hW0,Int.toNat_natCast]
  refine⟨⟨by omega,by omega⟩,?_⟩
  refine lit_row (D:={D with nx:=F,ct:=F,bk:=D.nx}) hl H 0 v s5 s10 d5 d10 fun s5 s10 d5 d10=>?_
  have:=ih (.val (.int k)) s5 s10 rfl d5 d10
  rw[Nat.zero_add,show cntR (fun j=>!qs.any (fun q=>inB (q4 q) k j)) 0=0 from rfl,Int.sub_zero]
  exact this
theorem put_new{kvs:List (Key×T)}{k:Nat}{t:T}(h:∀p∈kvs,∃j:Nat,p.1=.inl (j:Int)/\j < k):putT kvs (.inl (k:Int)) t=kvs++[(.inl (k:Int),t)]:=by
 unfold putT
 rw[if_neg]
 intro z
 rw[List.any_eq_true]at z
 obtain⟨p,hp,e⟩:=z
 obtain⟨j,e1,hj⟩:=h p hp
 have:=of_decide_eq_true e
 rw[e1]at this
 have:=Sum.inl.inj this
 omega
theorem lit_b2{D:DT}{W H:Nat}{qs:List BX}{v:Int}{q:BX}{p:Addr}{kvs:List (Key×T)}{k:Nat}{s4 s5 s8 s9 s10:Slot}(d4:nd1 s4=true)(d5:nd1 s5=true)(d10:nd1 s10=true)(hk:k < 100)(hl:kvs.length<=k)(hkv:∀p∈kvs,∃j:Nat,p.1=.inl (j:Int)/\j < k)
  (h1:nonE (clB W H q)=true->∀a b:Int,D.nx [.val (.tup [.int W,.int H]),.val (.lst (qs.map qT)),.val (.int v),.owd p (kvs++[(.inl (k:Int),.bl true)]),s4,s5,.val (.int (k:Nat)),.val (qT q),.val (.int a),.val (.int b),s10])
  (h2:nonE (clB W H q)=false->∀a b:Int,D.nx [.val (.tup [.int W,.int H]),.val (.lst (qs.map qT)),.val (.int v),.owd p kvs,s4,s5,.val (.int (k:Nat)),.val (qT q),.val (.int a),.val (.int b),s10]) :
  Z1o D [.val (.tup [.int W,.int H]),.val (.lst (qs.map qT)),.val (.int v),.owd p kvs,s4,s5,.val (.int (k:Nat)),.val (qT q),s8,s9,s10]:=by
 unfold Z1o
 obtain⟨DS,hDS⟩:∃W,W=sDSet 3 (wVar 6) (wC (.bl true)):=⟨_,rfl⟩
 rw[← hDS]
 have e1:0 < (if (W:Int) < q.1 + q.2.2.1 then (W:Int) else q.1 + q.2.2.1) - (if 0 > q.1 then 0 else q.1) ↔ (clB W H q).1 < (clB W H q).2.1:=by
  simp only[clB,meetB,q4,mxI,mnI]
  split<;>split<;>split<;>split<;>omega
 have e2:0 < (if (H:Int) < q.2.1 + q.2.2.2 then (H:Int) else q.2.1 + q.2.2.2) - (if 0 > q.2.1 then 0 else q.2.1) ↔ (clB W H q).2.2.1 < (clB W H q).2.2.2:=by
  simp only[clB,meetB,q4,mxI,mnI]
  split<;>split<;>split<;>split<;>omega
 unfold nonE at h1 h2
 have put:(clB W H q).1 < (clB W H q).2.1/\(clB W H q).2.2.1 < (clB W H q).2.2.2->∀a b:Int,DS D [.val (.tup [.int W,.int H]),.val (.lst (qs.map qT)),.val (.int v),.owd p kvs,s4,s5,.val (.int (k:Nat)),.val (qT q),.val (.int a),.val (.int b),s10]:=fun z a b=>by
  have hh:=h1 (decide_eq_true z) a b
  rw[← put_new hkv]at hh
  rw[hDS]
  refine⟨?_,show kvs.length < 1000 by omega,hh⟩
  exact noD_c rfl (noD_c rfl (noD_c rfl (noD_c rfl (noD_c d4 (noD_c d5 (noD_c rfl (noD_c rfl (noD_c rfl (noD_c rfl (noD_c d10 rfl))))))))))
 walk_at "go"
 refine⟨fun c1=>?_,fun c1=>?_⟩
 ·walk_at "go"
  exact⟨fun c2=>put ⟨e1.mp (of_decide_eq_true c1),e2.mp (of_decide_eq_true c2)⟩ _ _,fun c2=>h2 (decide_eq_false fun z=>(of_decide_eq_false c2) (e2.mpr z.2)) _ _⟩
 ·walk_at "go"
  exact h2 (decide_eq_false fun z=>(of_decide_eq_false c1) (e1.mpr z.1)) _ _
theorem lit_known{D:DT}{W H:Nat}{qs:List BX}{v:Int}{p:Addr}{s4 s5 s10:Slot}(d4:nd1 s4=true)(d5:nd1 s5=true)(d10:nd1 s10=true):∀(r:List BX)(k:Nat)(kvs:List (Key×T))(s6 s7 s8 s9:Slot),k + r.length<=90->kvs.length<=k->(∀p∈kvs,∃j:Nat,p.1=.inl (j:Int)/\j < k) →
  (∀(kvs':List (Key×T))(s6 s7 s8 s9:Slot),kvs'.length=kvs.length + ((r.map (clB W H)).filter nonE).length->D.nx [.val (.tup [.int W,.int H]),.val (.lst (qs.map qT)),.val (.int v),.owd p kvs',s4,s5,s6,s7,s8,s9,s10]) →
  forT (gT 2 (gsC (gN 6) (gsC (gN 7) gs0))) Z1o (enumT k (r.map qT)) D [.val (.tup [.int W,.int H]),.val (.lst (qs.map qT)),.val (.int v),.owd p kvs,s4,s5,s6,s7,s8,s9,s10]
 | [],k,kvs,s6,s7,s8,s9,_,_,_,h=>by
  simp only[List.map,enumT,forT]
  exact h kvs _ _ _ _ (by simp)
 | q::r,k,kvs,s6,s7,s8,s9,hk,hl,hkv,h=>by
  simp only[List.length_cons]at hk
  have ih1:=fun (ne:nonE (clB W H q)=true) s6 s7 s8 s9=>lit_known (D:=D) (W:=W) (H:=H) (qs:=qs) (v:=v) (p:=p) d4 d5 d10 r (k + 1) (kvs++[(.inl (k:Int),.bl true)]) s6 s7 s8 s9 (by omega) (by simp;omega) (fun p hp=>by
   rcases List.mem_append.mp hp with hp|hp
   ·obtain⟨j,e,hj⟩:=hkv p hp
    exact⟨j,e,by omega⟩
   ·rw[List.mem_singleton.mp hp]
    exact⟨k,rfl,by omega⟩) (fun kvs' s6 s7 s8 s9 e=>h kvs' s6 s7 s8 s9 (by rw[e,List.map_cons,List.filter_cons,if_pos ne];simp;omega))
  have ih2:=fun (ne:¬ nonE (clB W H q)=true) s6 s7 s8 s9=>lit_known (D:=D) (W:=W) (H:=H) (qs:=qs) (v:=v) (p:=p) d4 d5 d10 r (k + 1) kvs s6 s7 s8 s9 (by omega) (by omega) (fun p hp=>by
   obtain⟨j,e,hj⟩:=hkv p hp
   exact⟨j,e,by omega⟩) (fun kvs' s6 s7 s8 s9 e=>h kvs' s6 s7 s8 s9 (by rw[e,List.map_cons,List.filter_cons,if_neg ne]))
  simp only[List.map_cons,enumT,forT]
  generalize forT (gT 2 (gsC (gN 6) (gsC (gN 7) gs0))) Z1o (enumT (k + 1) (r.map qT)) D=F at ih1 ih2 ⊢
  simp only[gT,gsC,gs0,gN,sput,List.length_cons,List.length_nil,true_and]
  exact lit_b2 (D:={D with nx:=F,ct:=F,bk:=D.nx}) d4 d5 d10 (by omega) hl hkv (fun ne a b=>ih1 ne _ _ _ _) (fun ne a b=>ih2 (by rw[ne];decide) _ _ _ _)
theorem Z69:∀ts Q,Z2J ts Q->Z5D {nx:=fun _=>Q .non,rt:=Q} (startT 11 ts):=by
 rintro _ Q ⟨W,H,qs,rfl,w1,hW,h1,hH,hl,hp,q1,q2⟩
 unfold Z5D
 obtain⟨W1,hW1⟩:∃W,W=Z1C:=⟨_,rfl⟩
 obtain⟨W2,hW2⟩:∃W,W=Z1o:=⟨_,rfl⟩
 rw[← hW1,← hW2]
 walk_at "tw"
 intro p
 refine⟨⟨by omega,by omega⟩,?_⟩
 rw[hW1,Int.toNat_natCast]
 refine lit_cols hl hH W 0 0 _ _ _ rfl rfl rfl fun s4 s5 s10 d4 d5 d10=>?_
 rw[hW2]
 have ec:cnt (fun i j=>!qs.any (fun q=>inB (q4 q) i j)) H (0 + W) - cnt (fun i j=>!qs.any (fun q=>inB (q4 q) i j)) H 0=litN W H qs:=by
  unfold litN
  rw[Nat.zero_add,show cnt (fun i j=>!qs.any (fun q=>inB (q4 q) i j)) H 0=0 from rfl,Int.sub_zero,cnt_not]
  congr 1
  refine cnt_congr W fun i j hi hj=>?_
  unfold covB
  rw[List.any_map]
  congr 1
  funext q
  exact(inB_cl hi hj).symm
 rw[ec,Int.zero_add]
 have lim:=cnt_bd (covB (qs.map (clB W H))) H W
 refine lit_known d4 d5 d10 qs 0 [] _ _ _ _ (by omega) (by simp) (fun p hp=>absurd hp (by simp)) fun kvs s6 s7 s8 s9 e=>?_
 rw[List.length_nil,Nat.zero_add]at e
 have wh:(0:Int) < W * H:=Int.mul_pos (by omega) (by omega)
 have wh2:(W:Int) * H<=10 * 10:=Int.mul_le_mul (by omega) (by omega) (by omega) (by omega)
 have lw:Lim 3 ((W:Int)):=lim3 (by omega) (by omega)
 have lh:Lim 3 ((H:Int)):=lim3 (by omega) (by omega)
 walk_at "go"
 refine⟨fun c=>?_,fun c=>?_⟩
 ·have:=of_decide_eq_true c
  walk_at "go"
  exact q1 (by unfold manyN;omega)
 ·have:=of_decide_eq_false c
  walk_at "go"
  refine⟨litN W H qs,_,rfl,by unfold litN;omega,wh,(lim3 (i:=(W:Int) * H) (by omega) (by omega)).mono (by decide),q2 (by unfold manyN;omega)⟩
abbrev tHour(h:Int):T:=.tup [.str (Str.ofString "hour"),.int h]
abbrev tName:T:=.str (Str.ofString "name")
abbrev tMany:T:=.str (Str.ofString "many")
def tellR(Q:T->Prop)(x:T):Prop:=(∃h,x=noHour h/\Q (tHour h))∨(x=.exc "NoName" /\ Q tName)∨(x=.exc "TooMany" /\ Q tMany)
def Z0n:SpT:=fun ts Q=>Z0E (tellR Q) ts Q
theorem Z4R:∀ts Q,Z0n ts Q->ts.length=3:=fun ts Q h=>Z3e _ _ _ h
def Z5a:WS :=
 (sSeq (sSet 3 (wC .non))
  (sSeq (sSet 4 (wC .non))
  (sSeq (sTry (fun R=>(sSet 4 (wCall (Z0E R) (aCons (wVar 0) (aCons (wVar 1) (aCons (wVar 2) aNil)))))) 5 3 ["NoHour", "NoName", "TooMany"])
  (sSeq (sIf (tCmpT cIsN (wVar 3) (wC .non)) (sRet (wVar 4)) sNext)
  (sSeq (sSet 6 (wLst (aCons (wIsE [("NoHour", true),("NoName", false),("TooMany", false)] (wVar 3)) (aCons (wIsE [("NoHour", false),("NoName", true),("TooMany", false)] (wVar 3)) (aCons (wIsE [("NoHour", false),("NoName", false),("TooMany", true)] (wVar 3)) aNil)))))
  (sSeq (sSet 7 (wIsE [("NoHour", false),("NoName", false),("TooMany", false)] (wVar 3)))
  (sSeq (sIf (tOrT (tVal (wVar 7)) (tOrT (tCmpT cNeT (wCountB (wVar 6) (aCons (wC (.bl true)) aNil)) (wC (.int 1))) (tNotT (tVal (wIsE [("NoHour", true),("NoName", true),("TooMany", true)] (wVar 3)))))) (sRet (wC (.str (Str.ofString "another")))) sNext)
  (sSeq (sIf (tVal (w2 rIxTT (wVar 6) (wC (.int 0)))) (sRet (wTup (aCons (wC (.str (Str.ofString "hour"))) (aCons (wFld "hour" ["NoHour"] (wVar 3)) aNil)))) sNext)
  (sRet (w2 rIxTT (wLst (aCons (wC (.str (Str.ofString ""))) (aCons (wC (.str (Str.ofString "name"))) (aCons (wC (.str (Str.ofString "many"))) aNil)))) (wIdxB (wVar 6) (aCons (wC (.bl true)) aNil))))))))))))
theorem lit_mono{R R' Q Q':T->Prop}{ts:List T}(hR:∀x,R x->R' x)(hQ:∀x,Q x->Q' x)(h:Z0E R ts Q):Z0E R' ts Q':=by
 obtain⟨sun,ws,ds,hh,n,e,sn,sk,lh,z⟩:=h
 refine⟨sun,ws,ds,hh,n,e,sn,sk,lh,?_⟩
 cases es:sunAt sun hh with
 | none=>rw[es]at z;exact hR _ z
 | some e =>
  rw[es]at z
  simp only at z ⊢
  cases ed:dialAt ds n with
  | none=>rw[ed]at z;exact hR _ z
  | some t =>
   rw[ed]at z
   simp only at z ⊢
   obtain⟨l,h1,h2,h3⟩:=z
   refine⟨l,fun a=>hQ _ (h1 a),fun a b=>hQ _ (h2 a b),fun a b=>?_⟩
   obtain⟨W,H,u,v,l,tp,ss,e1,A,k1,k2⟩:=h3 a b
   exact⟨W,H,u,v,l,tp,ss,e1,A,fun g=>hR _ (k1 g),fun g=>hQ _ (k2 g)⟩
theorem Z63:∀ts Q,Z0n ts Q->Z5a {nx:=fun _=>Q .non,rt:=Q} (startT 8 ts):=by
 intro ts Q h
 have hl:=Z4R _ _ h
 obtain⟨a,b,c,rfl⟩:∃a b c,ts=[a,b,c]:=by
  rcases ts with _|⟨a,_|⟨b,_|⟨c,_|⟨d,r⟩⟩⟩⟩<;>simp at hl
  exact⟨a,b,c,rfl⟩
 unfold Z5a
 obtain⟨SP,hSP⟩:∃S,S=Z0E:=⟨_,rfl⟩
 have h':∀R' Q':T->Prop,(∀x,tellR Q x->R' x)->(∀x,Q x->Q' x)->SP R' [a,b,c] Q':=fun R' Q' g1 g2=>by rw[hSP];exact lit_mono g1 g2 h
 rw[← hSP]
 walk_at "go"
 refine h' _ _ (fun x hx=>?_) (fun x hx=>?_)
 ·rcases hx with ⟨g,rfl,q⟩|⟨rfl,q⟩|⟨rfl,q⟩
  ·refine⟨List.mem_cons_self,?_⟩
   walk_at "go"
   exact q
  ·refine⟨List.mem_cons_of_mem _ List.mem_cons_self,?_⟩
   walk_at "go"
   exact q
  ·refine⟨List.mem_cons_of_mem _ (List.mem_cons_of_mem _ List.mem_cons_self),?_⟩
   walk_at "go"
   exact q
 ·walk_at "go"
  exact hx
def Z1p:SpT:=fun ts Q=>∃f d:T,ts=[f,d]/\((d=.non/\f=tMany)∨∃a b:Int,b≠0/\d=fr a b/\f=fr a b)/\Q (.bl true)
theorem Z5E:∀ts Q,Z1p ts Q->ts.length=2:=by rintro ts Q ⟨_,_,e,_⟩;subst e;rfl
def Z3f:WS :=
 (sSeq (sIf (tCmpT cIsN (wVar 1) (wC .non)) (sRet (wCmp cEqT (wVar 0) (wC (.str (Str.ofString "many"))))) sNext)
  (sSeq (sIf (tOrT (tNotT (tVal (wIsi .tuple (wVar 0)))) (tCmpT cNeT (wVar 0) (wVar 1))) (sRet (wC (.bl false))) sNext)
  (sRet (wAndV (wNotV (wIsi .bool (w2 rIxTT (wVar 0) (wC (.int 0))))) (wNotV (wIsi .bool (w2 rIxTT (wVar 0) (wC (.int 1)))))))))
theorem Z5S:∀ts Q,Z1p ts Q->Z3f {nx:=fun _=>Q .non,rt:=Q} (startT 2 ts):=by
 rintro _ Q ⟨f,d,rfl,⟨rfl,rfl⟩|⟨a,b,hb,rfl,rfl⟩,q⟩
 ·have ok:EqOk tMany tMany:=eqOk_str (by decide +kernel) (by decide +kernel)
  have e:eqT tMany tMany=true:=by rw[eqT_str];exact decide_eq_true rfl
  unfold Z3f
  walk_at "go"
  rw[e]
  exact q
 ·have ok:=eqOk_fr a b a b
  have e:=eqT_fr (a:=a) (c:=a) hb hb
  rw[decide_eq_true rfl]at e
  unfold Z3f
  unfold fr at *
  walk_at "go"
  rw[e]
  walk_at "go"
  exact q
def evs{α:Type}:Bool->List α->List α
 | _,[]=>[]
 | true,x::r=>x::evs false r
 | false,_::r=>evs true r
theorem evs_mem{α:Type}:∀{b:Bool}{l:List α}{x:α},x∈evs b l->x∈l
 | _,[],x,h=>by cases ‹Bool› <;> simp[evs]at h
 | true,y::r,x,h=>by
  rcases List.mem_cons.mp (show x∈y::evs false r from h) with rfl|h
  ·exact List.mem_cons_self
  ·exact List.mem_cons_of_mem _ (evs_mem h)
 | false,y::r,x,h=>List.mem_cons_of_mem _ (evs_mem (show x∈evs true r from h))
theorem evs_any{α:Type}(p:α->Bool):∀(b:Bool)(l:List α),((evs b l).any p||(evs (!b) l).any p)=l.any p
 | true,[]=>rfl
 | false,[]=>rfl
 | true,y::r=>by
  have:=evs_any p false r
  simp only[evs,Bool.not_true,List.any_cons,Bool.or_assoc]
  simp only[Bool.not_false]at this
  rw[this]
 | false,y::r=>by
  have:=evs_any p true r
  simp only[evs,Bool.not_false,List.any_cons]
  simp only[Bool.not_true]at this
  rw[← this]
  cases p y<;>cases (evs true r).any p<;>simp
theorem evs_cnt{α:Type}(p:α->Bool):∀(b:Bool)(l:List α),((evs b l).filter p).length + ((evs (!b) l).filter p).length=(l.filter p).length
 | true,[]=>rfl
 | false,[]=>rfl
 | true,y::r=>by
  have:=evs_cnt p false r
  simp only[Bool.not_false]at this
  simp only[evs,Bool.not_true,List.filter_cons]
  split<;>(try simp only[List.length_cons])<;>omega
 | false,y::r=>by
  have:=evs_cnt p true r
  simp only[Bool.not_true]at this
  simp only[evs,Bool.not_false,List.filter_cons]
  split<;>(try simp only[List.length_cons])<;>omega
section
variable {A B:Str} {l d:Tr}
theorem wls_pl:∀(ps:List Shd)(k:Nat),(wlsF A B l d k ps).map (·.2.1)=(evs (decide (k % 2=0)) ps).map (shAt l d)
 | [],k=>by cases decide (k % 2=0)<;>rfl
 | s::r,k=>by
  have ih:=wls_pl r (k + 1)
  simp only[wlsF,List.map_append]
  rw[ih]
  by_cases z:k % 2=0
  ·rw[decide_eq_true z,decide_eq_false (show ¬ (k + 1) % 2=0 by omega),if_pos z];rfl
  ·rw[decide_eq_false z,decide_eq_true (show (k + 1) % 2=0 by omega),if_neg z];rfl
theorem dls_pl:∀(ps:List Shd)(k:Nat),(dlsF A B l d k ps).map (·.2.1)=(evs (!decide (k % 2=0)) ps).map (shAt l d)
 | [],k=>by cases decide (k % 2=0)<;>rfl
 | s::r,k=>by
  have ih:=dls_pl r (k + 1)
  simp only[dlsF,List.map_append]
  rw[ih]
  by_cases z:k % 2=0
  ·rw[decide_eq_true z,decide_eq_false (show ¬ (k + 1) % 2=0 by omega),if_pos z];rfl
  ·rw[decide_eq_false z,decide_eq_true (show (k + 1) % 2=0 by omega),if_neg z];rfl
theorem wls_nm:∀(ps:List Shd)(k:Nat),∀t∈wlsF A B l d k ps,∃j,k<=j/\j < k + ps.length/\j % 2=0/\t.1=nmF A B (1 + j)
 | [],k,t,h=>by simp[wlsF]at h
 | s::r,k,t,h=>by
  rcases List.mem_append.mp (show t∈_++_ from h) with h|h
  ·split at h
   ·rename_i z
    rw[List.mem_singleton.mp h]
    exact⟨k,Nat.le_refl _,by simp,z,rfl⟩
   ·simp at h
  ·obtain⟨j,h1,h2,h3,h4⟩:=wls_nm r (k + 1) t h
   exact⟨j,by omega,by simp;omega,h3,h4⟩
theorem dls_nm:∀(ps:List Shd)(k:Nat),∀t∈dlsF A B l d k ps,∃j,k<=j/\j < k + ps.length/\j % 2=1/\t.1=nmF A B (1 + j)
 | [],k,t,h=>by simp[dlsF]at h
 | s::r,k,t,h=>by
  rcases List.mem_append.mp (show t∈_++_ from h) with h|h
  ·split at h
   ·simp at h
   ·rename_i z
    rw[List.mem_singleton.mp h]
    exact⟨k,Nat.le_refl _,by simp,by omega,rfl⟩
  ·obtain⟨j,h1,h2,h3,h4⟩:=dls_nm r (k + 1) t h
   exact⟨j,by omega,by simp;omega,h3,h4⟩
theorem wls_len:∀(ps:List Shd)(k:Nat),(wlsF A B l d k ps).length + (dlsF A B l d k ps).length=ps.length
 | [],k=>rfl
 | s::r,k=>by
  have:=wls_len r (k + 1)
  simp only[wlsF,dlsF,List.length_append,List.length_cons]
  split<;>simp<;>omega
end
theorem shBx_pos{W H:Nat}{s:Shd}(z:0 < s.m):shBx W H s=clB W H (bx4 s):=by
 unfold shBx
 rw[if_pos z]
theorem shBx_neg{W H:Nat}{s:Shd}(z:¬ 0 < s.m):shBx W H s=(0,0,0,0):=by
 unfold shBx
 rw[if_neg z]
theorem many_eq{W H:Nat}:∀ps:List Shd,((ps.map (shBx W H)).filter nonE).length=manyN W H (shF ps)
 | []=>rfl
 | s::r=>by
  have ih:=many_eq (W:=W) (H:=H) r
  unfold manyN at ih ⊢
  rw[shF_cons,List.map_cons,List.map_append,List.filter_append,List.length_append,List.filter_cons,← ih]
  by_cases z:0 < s.m
  ·rw[if_pos z,shBx_pos z,List.map_cons,List.map_nil,List.filter_cons,List.filter_nil]
   split<;>simp<;>omega
  ·rw[if_neg z,shBx_neg z,if_neg (by decide)]
   simp
theorem cov_eq{W H:Nat}(i j:Int):∀ps:List Shd,covB (ps.map (shBx W H)) i j=covB ((shF ps).map (clB W H)) i j
 | []=>rfl
 | s::r=>by
  have ih:=cov_eq (W:=W) (H:=H) i j r
  unfold covB at ih ⊢
  rw[shF_cons,List.map_cons,List.map_append,List.any_append,List.any_cons,ih]
  by_cases z:0 < s.m
  ·rw[if_pos z,shBx_pos z]
   simp
  ·rw[if_neg z,shBx_neg z]
   have:inB (0,0,0,0) i j=false:=decide_eq_false (by simp only;omega)
   rw[this]
   simp
theorem two_many{W H:Nat}(ps:List Shd):(((evs true ps++evs false ps).map (shBx W H)).filter nonE).length=manyN W H (shF ps):=by
 rw[List.map_append,List.filter_append,List.length_append,← many_eq]
 have f:∀l:List Shd,((l.map (shBx W H)).filter nonE).length=(l.filter fun s=>nonE (shBx W H s)).length:=fun l=>by
  rw[List.filter_map,List.length_map]
  rfl
 rw[f,f,f]
 exact evs_cnt _ true ps
theorem two_cov{W H:Nat}(ps:List Shd):cnt (covB ((evs true ps++evs false ps).map (shBx W H))) H W=cnt (covB ((shF ps).map (clB W H))) H W:=by
 refine cnt_congr W fun i j _ _=>?_
 rw[← cov_eq]
 unfold covB
 rw[List.any_map,List.any_map,List.any_append]
 exact evs_any _ true ps
theorem noS_pl(l d:Tr)(s:Shd):shAt l d s=shAt l (0,0,1) (noS d s):=by
 unfold shAt
 congr 1
 simp only[Prod.mk.injEq]
 refine⟨?_,?_,?_⟩<;>grind
theorem noS_F(d:Tr)(hd:0 < d.2.2):∀ps:List Shd,shF (ps.map (noS d))=noF d ps
 | []=>rfl
 | s::r=>by
  rw[List.map_cons,shF_cons,noF_cons,noS_F d hd r]
  by_cases z:0 < s.m
  ·rw[if_pos z,if_pos (show 0 < s.m * d.2.2 from Int.mul_pos z hd)]
  ·rw[if_neg z,if_neg]
   show ¬ 0 < s.m * d.2.2
   have:=Int.mul_nonneg (show 0 <= -s.m by omega) (Int.le_of_lt hd)
   rw[Int.neg_mul]at this
   omega
theorem evs_map{α β:Type}(f:α->β):∀(b:Bool)(l:List α),evs b (l.map f)=(evs b l).map f
 | true,[]=>rfl
 | false,[]=>rfl
 | true,x::r=>by simp only[List.map_cons,evs,evs_map f false r]
 | false,x::r=>by simp only[List.map_cons,evs,evs_map f true r]
theorem sd_ok{s:Shd}(h:SdOk s):ShOk s:=⟨by have:=h.x;omega,by have:=h.y;omega,by have:=h.w;omega,by have:=h.h;omega,by have:=h.m;omega,h.way⟩
theorem no_ok{l d:Tr}{s:Shd}(O:DrOk l d)(h:SdOk s):ShOk (noS d s):=by
 have m:=h.m
 have bd:∀{a b c:Int},-1<=a->a<=4 -> -c<=b->b<=c->0<=c -> -4 * c<=a * b/\a * b<=4 * c:=fun {a b c} h1 h2 h3 h4 h5=>by
  have:a=-1∨a=0∨a=1∨a=2∨a=3∨a=4:=by omega
  rcases this with rfl|rfl|rfl|rfl|rfl|rfl<;>omega
 have b1:=bd (b:=d.1) (c:=3) m.1 m.2 O.d1.1 O.d1.2 (by decide)
 have b2:=bd (b:=d.2.1) (c:=3) m.1 m.2 O.d2.1 O.d2.2 (by decide)
 have b3:=bd (b:=d.2.2) (c:=3) m.1 m.2 (by have:=O.d3;omega) O.d3.2 (by decide)
 have hx:=h.x
 have hy:=h.y
 have hw:=h.w
 have hh:=h.h
 exact⟨by show -40 < s.X + s.m * d.1/\s.X + s.m * d.1 < 40;omega,by show -40 < s.Y + s.m * d.2.1/\s.Y + s.m * d.2.1 < 40;omega,by show 0 < s.w/\s.w < 20;omega,by show 0 < s.h/\s.h < 20;omega,by show -1000 < s.m * d.2.2/\s.m * d.2.2 < 1000;omega,h.way⟩
structure Dr where
 W:Nat
 H:Nat
 l:Tr
 d:Tr
 A:Str
 B:Str
 down:Bool
 ps:List Shd
 a:Nat
 h:Int
structure DOk(x:Dr):Prop where
 w1:1<=x.W
 w2:x.W<=10
 h1:1<=x.H
 h2:x.H<=10
 o:DrOk x.l x.d
 n:NmOk x.A x.B
 p:x.ps.length<=15
 s:∀s∈x.ps,SdOk s
 h:0<=x.h/\x.h<=1000
abbrev sunL(x:Dr):List (Int×Tr):=[(x.h - 1,(x.d.1,1,0)),(x.h,x.d),(x.h + 1,(x.d.1,x.d.2.1,0 - x.d.2.2)),(x.h + 3,(0,0,1))]
abbrev wsL(x:Dr):List Th:=wlsF x.A x.B x.l x.d 0 x.ps
abbrev fcL(x:Dr):Th:=fceD x.A x.B x.l x.W x.H x.down
abbrev dsL(x:Dr):List Th:=(dlsF x.A x.B x.l x.d 0 x.ps).take x.a++fcL x::(dlsF x.A x.B x.l x.d 0 x.ps).drop x.a
abbrev nm0(x:Dr):Str:=nmF x.A x.B 0
theorem face_ex{W H:Nat}(w1:1<=W)(w2:W<=10)(h1:1<=H)(h2:H<=10):∃u v:Int,Face W H u v:=by
 have f:∀W:Nat,1<=W->W<=10->∃u:Int,0 < u/\u * W=2520:=by
  intro W h1 h2
  have:W=1∨W=2∨W=3∨W=4∨W=5∨W=6∨W=7∨W=8∨W=9∨W=10:=by omega
  rcases this with rfl|rfl|rfl|rfl|rfl|rfl|rfl|rfl|rfl|rfl
  ·exact⟨2520,by decide,by decide⟩
  ·exact⟨1260,by decide,by decide⟩
  ·exact⟨840,by decide,by decide⟩
  ·exact⟨630,by decide,by decide⟩
  ·exact⟨504,by decide,by decide⟩
  ·exact⟨420,by decide,by decide⟩
  ·exact⟨360,by decide,by decide⟩
  ·exact⟨315,by decide,by decide⟩
  ·exact⟨280,by decide,by decide⟩
  ·exact⟨252,by decide,by decide⟩
 obtain⟨u,u0,eu⟩:=f W w1 w2
 obtain⟨v,v0,ev⟩:=f H h1 h2
 exact⟨u,v,u0,v0,eu,ev,w2,h2⟩
section
variable {x:Dr}
theorem ds_mem(O:DOk x):∀t∈dsL x,t=fcL x∨∃j,j < 15/\j % 2=1/\t.1=nmF x.A x.B (1 + j):=fun t ht=>by
 have hp:=O.p
 have f:t∈dlsF x.A x.B x.l x.d 0 x.ps->∃j,j < 15/\j % 2=1/\t.1=nmF x.A x.B (1 + j):=fun h=>by
  obtain⟨j,h1,h2,h3,h4⟩:=dls_nm x.ps 0 t h
  exact⟨j,by omega,h3,h4⟩
 rcases List.mem_append.mp ht with h|h
 ·exact .inr (f (List.mem_of_mem_take h))
 ·rcases List.mem_cons.mp h with h|h
  ·exact .inl h
  ·exact .inr (f (List.mem_of_mem_drop h))
theorem ws_mem(O:DOk x):∀t∈wsL x,∃j,j < 15/\j % 2=0/\t.1=nmF x.A x.B (1 + j):=fun t ht=>by
 have hp:=O.p
 obtain⟨j,h1,h2,h3,h4⟩:=wls_nm x.ps 0 t ht
 exact⟨j,by omega,h3,h4⟩
theorem all_sk(O:DOk x):∀t∈wsL x++dsL x,SOk t.1:=fun t ht=>by
 rcases List.mem_append.mp ht with h|h
 ·obtain⟨j,_,_,e⟩:=ws_mem O t h
  rw[e];exact(nm_sg O.n _).ok
 ·rcases ds_mem O t h with rfl|⟨j,_,_,e⟩
  ·exact(nm_sg O.n _).ok
  ·rw[e];exact(nm_sg O.n _).ok
theorem filt_all(O:DOk x):(wsL x++dsL x).filter (fun t=>!decide (t.1=nm0 x))=wsL x++dlsF x.A x.B x.l x.d 0 x.ps:=by
 have hp:=O.p
 have kw:∀t∈wsL x,(!decide (t.1=nm0 x))=true:=fun t ht=>by
  obtain⟨j,hj,_,e⟩:=ws_mem O t ht
  rw[decide_eq_false]
  ·rfl
  ·rw[e];exact fun z=>by have:=nm_inj (by omega) (by omega) z;omega
 have kd:∀t∈dlsF x.A x.B x.l x.d 0 x.ps,(!decide (t.1=nm0 x))=true:=fun t ht=>by
  obtain⟨j,h1,h2,h3,e⟩:=dls_nm x.ps 0 t ht
  rw[decide_eq_false]
  ·rfl
  ·rw[e];exact fun z=>by have:=nm_inj (by omega) (by omega) z;omega
 have kf:(!decide ((fcL x).1=nm0 x))=false:=by rw[decide_eq_true rfl];rfl
 rw[List.filter_append,List.filter_append,List.filter_cons,if_neg (by rw[kf];decide)]
 rw[List.filter_eq_self.mpr kw,List.filter_eq_self.mpr (fun t ht=>kd t (List.mem_of_mem_take ht)),List.filter_eq_self.mpr (fun t ht=>kd t (List.mem_of_mem_drop ht)),List.take_append_drop]
theorem lim_l(O:DOk x):LimT 3 x.l/\LimT 3 x.d:=by
 obtain⟨a,b,c,e,f,g⟩:=O.o
 exact⟨⟨lim3 (by omega) (by omega),lim3 (by omega) (by omega),lim3 (by omega) (by omega)⟩,⟨lim3 (by omega) (by omega),lim3 (by omega) (by omega),lim3 (by omega) (by omega)⟩⟩
theorem abt_dir(O:DOk x){u v:Int}(F:Face x.W x.H u v):Abt x.W x.H u v x.l x.d (nm0 x) (wsL x) (dsL x) (evs true x.ps++evs false x.ps):=by
 have hp:=O.p
 have d3:=O.o.d3
 have hl:=wls_len (A:=x.A) (B:=x.B) (l:=x.l) (d:=x.d) x.ps 0
 refine⟨F,(lim_l O).1,(lim_l O).2,by omega,(nm_sg O.n _).ok,all_sk O,?_,?_,fun s hs=>?_⟩
 ·simp only[wsL,dsL,List.length_append,List.length_cons,List.length_take,List.length_drop]
  omega
 ·rw[filt_all O,List.map_append,List.map_append,wls_pl,dls_pl]
  rfl
 ·rcases List.mem_append.mp hs with h|h<;>exact sd_ok (O.s s (evs_mem h))
theorem abt_noon(O:DOk x){u v:Int}(F:Face x.W x.H u v):Abt x.W x.H u v x.l (0,0,1) (nm0 x) (wsL x) (dsL x) (evs true (x.ps.map (noS x.d))++evs false (x.ps.map (noS x.d))):=by
 have A:=abt_dir O F
 refine⟨F,A.ll,⟨lim3 (by decide) (by decide),lim3 (by decide) (by decide),lim3 (by decide) (by decide)⟩,by decide,A.sn,A.sk,A.len,?_,fun s hs=>?_⟩
 ·rw[A.eq,evs_map,evs_map,← List.map_append,List.map_map]
  refine List.map_congr_left fun s _=>?_
  exact noS_pl x.l x.d s
 ·have:s∈x.ps.map (noS x.d):=by rcases List.mem_append.mp hs with h|h<;>exact evs_mem h
  obtain⟨s',hs',rfl⟩:=List.mem_map.mp this
  exact no_ok O.o (O.s s' hs')
theorem dial_0(O:DOk x):dialAt (dsL x) (nm0 x)=some (fcL x):=by
 have hp:=O.p
 have:∀(l1 l2:List Th),(∀t∈l1,t.1≠nm0 x)->dialAt (l1++fcL x::l2) (nm0 x)=some (fcL x):=fun l1 l2 h=>by
  induction l1 with
  | nil=>exact List.find?_cons_of_pos (decide_eq_true rfl)
  | cons t r ih =>
   rw[List.cons_append]
   show List.find? _ _=_
   rw[List.find?_cons_of_neg (by rw[decide_eq_false (h t List.mem_cons_self)];decide)]
   exact ih fun t ht=>h t (List.mem_cons_of_mem _ ht)
 refine this _ _ fun t ht=>?_
 obtain⟨j,h1,h2,h3,e⟩:=dls_nm x.ps 0 t (List.mem_of_mem_take ht)
 rw[e]
 exact fun z=>by have:=nm_inj (by omega) (by omega) z;omega
theorem dial_no{n:Str}(h:∀t∈dsL x,t.1≠n):dialAt (dsL x) n=none:=by
 refine List.find?_eq_none.mpr fun t ht=>?_
 rw[decide_eq_false (h t ht)]
 decide
def litV(down:Bool)(W H:Nat)(qs:List BX):T:=if down then fra 0 1 else if 6 < manyN W H qs then tMany else fr (litN W H qs) (W * H)
def dueV(down:Bool)(W H:Nat)(qs:List BX):T:=if down then fra 0 1 else if 6 < manyN W H qs then .non else fr (litN W H qs) (W * H)
theorem log_of{i:Int}(h:-100000 < i/\i < 100000):i.natAbs.log2 < 1920:=by
 by_cases z:i.natAbs=0
 ·rw[z];decide
 ·rw[Nat.log2_lt z]
  have:(100000:Nat) < 2 ^ 1920:=by decide +kernel
  omega
theorem face_lim(O:DOk x):PlLim 20 (fcL x).2.1:=by
 have l:=lim_l O
 have w2:=O.w2
 have h2:=O.h2
 have lw:Lim 20 (x.W:Int):=(lim3 (i:=(x.W:Int)) (by omega) (by omega)).mono (by decide)
 have lh:Lim 20 (x.H:Int):=(lim3 (i:=(x.H:Int)) (by omega) (by omega)).mono (by decide)
 obtain⟨W,H,l',d,A,B,down,ps,a,h⟩:=x
 cases down
 ·exact⟨l.1.mono (by decide),⟨lw,lim0,lim0⟩,⟨lim0,lh,lim0⟩⟩
 ·exact⟨l.1.mono (by decide),⟨lim0,lh,lim0⟩,⟨lw,lim0,lim0⟩⟩
theorem told_lit(O:DOk x){h':Int}{e:Tr}{ss:List Shd}{qs:List BX}{Q:T->Prop}(hs:sunAt (sunL x) h'=some (h',e))(le:LimT 3 e)(ez:0 < e.2.2)(lh:-100000 < h'/\h' < 100000)
  (A:∀u v,Face x.W x.H u v->Abt x.W x.H u v x.l e (nm0 x) (wsL x) (dsL x) ss) (e1:((ss.map (shBx x.W x.H)).filter nonE).length=manyN x.W x.H qs) (e2:cnt (covB (ss.map (shBx x.W x.H))) x.H x.W=cnt (covB (qs.map (clB x.W x.H))) x.H x.W) (q:Q (litV x.down x.W x.H qs)) :
  Z0n [yardT (sunL x) (wsL x) (dsL x),.int h',.str (nm0 x)] Q:=by
 obtain⟨u,v,F⟩:=face_ex O.w1 O.w2 O.h1 O.h2
 have p0:=(face_ne F).2.1
 refine⟨sunL x,wsL x,dsL x,h',nm0 x,rfl,(nm_sg O.n _).ok,fun t ht=>all_sk O t (List.mem_append_right _ ht),log_of lh,?_⟩
 rw[hs]
 simp only
 rw[dial_0 O]
 simp only
 refine⟨⟨le,face_lim O⟩,fun z=>absurd ez z,fun _ z=>?_,fun _ z=>?_⟩
 ·cases ed:x.down with
  | true =>
   rw[ed]at q
   exact q
  | false =>
   refine absurd ?_ z
   rw[ed]
   show 0 < dotI (crs ((x.W:Int),0,0) (0,(x.H:Int),0)) e
   have:dotI (crs ((x.W:Int),0,0) (0,(x.H:Int),0)) e=x.W * x.H * e.2.2:=by simp only[crs,dotI];grind
   rw[this]
   exact Int.mul_pos p0 ez
 ·cases ed:x.down with
  | true =>
   rw[ed]at z
   have z':0 < dotI (crs (0,(x.H:Int),0) ((x.W:Int),0,0)) e:=z
   have:dotI (crs (0,(x.H:Int),0) ((x.W:Int),0,0)) e=-(x.W * x.H * e.2.2):=by simp only[crs,dotI];grind
   rw[this]at z'
   have:=Int.mul_pos p0 ez
   omega
  | false =>
   rw[ed]at q
   refine⟨x.W,x.H,u,v,x.l,some (tipP (fceP x.l x.W x.H false) 0),ss,(by simp only[fcL];rw[ed];rfl),A u v F,fun g=>?_,fun g=>?_⟩
   ·rw[e1]at g
    unfold litV at q
    rw[if_neg (by decide),if_pos g]at q
    exact .inr (.inr ⟨rfl,q⟩)
   ·rw[e1]at g
    unfold litV litN at q
    rw[if_neg (by decide),if_neg (by omega),← e2]at q
    exact q
theorem told_dark(O:DOk x){h':Int}{e:Tr}{Q:T->Prop}(hs:sunAt (sunL x) h'=some (h',e))(le:LimT 3 e)(ez:¬ 0 < e.2.2)(lh:-100000 < h'/\h' < 100000)(q:Q (fra 0 1)):Z0n [yardT (sunL x) (wsL x) (dsL x),.int h',.str (nm0 x)] Q:=by
 refine⟨sunL x,wsL x,dsL x,h',nm0 x,rfl,(nm_sg O.n _).ok,fun t ht=>all_sk O t (List.mem_append_right _ ht),log_of lh,?_⟩
 rw[hs]
 simp only
 rw[dial_0 O]
 exact⟨⟨le,face_lim O⟩,fun _=>q,fun z=>absurd z ez,fun z=>absurd z ez⟩
theorem told_hour(O:DOk x){h':Int}{n:Str}{Q:T->Prop}(sn:SOk n)(hs:sunAt (sunL x) h'=none)(lh:-100000 < h'/\h' < 100000)(q:Q (tHour h')):Z0n [yardT (sunL x) (wsL x) (dsL x),.int h',.str n] Q:=by
 refine⟨sunL x,wsL x,dsL x,h',n,rfl,sn,fun t ht=>all_sk O t (List.mem_append_right _ ht),log_of lh,?_⟩
 rw[hs]
 exact .inl ⟨h',rfl,q⟩
theorem told_name(O:DOk x){h':Int}{e:Tr}{n:Str}{Q:T->Prop}(sn:SOk n)(hs:sunAt (sunL x) h'=some (h',e))(hn:∀t∈dsL x,t.1≠n)(lh:-100000 < h'/\h' < 100000)(q:Q tName):Z0n [yardT (sunL x) (wsL x) (dsL x),.int h',.str n] Q:=by
 refine⟨sunL x,wsL x,dsL x,h',n,rfl,sn,fun t ht=>all_sk O t (List.mem_append_right _ ht),log_of lh,?_⟩
 rw[hs]
 simp only
 rw[dial_no hn]
 exact .inr (.inl ⟨rfl,q⟩)
end
def Z2R:WE :=
 (w2 rSubT (wCall Z07 (aCons (wVar 1) (aCons (w2 rAddT (wC (.int 24)) (wVar 0)) (aCons (wC (.int 41)) aNil)))) (wC (.int 20)))
def Z23:WS :=
 (sIf (tCmpT cNeT (wCall Z0n (aCons (wVar 8) (aCons (w2 rAddT (wVar 6) (wC (.int 2))) (aCons (wVar 12) aNil)))) (wTup (aCons (wC (.str (Str.ofString "hour"))) (aCons (w2 rAddT (wVar 6) (wC (.int 2))) aNil)))) (sRet (wC (.bl false))) sNext)
def Z1q:WS :=
 (sIf (tOrT (tCmpT cNeT (wCall Z0n (aCons (wVar 8) (aCons (wVar 6) (aCons (w2 rIxTT (wVar 13) (wC (.int 0))) aNil)))) (wC (.str (Str.ofString "name")))) (tCmpT cNeT (wCall Z0n (aCons (wVar 8) (aCons (w2 rAddT (wVar 6) (wC (.int 1))) (aCons (w2 rIxTT (wVar 13) (wC (.int 0))) aNil)))) (wC (.str (Str.ofString "name"))))) (sRet (wC (.bl false))) sNext)
def Z1U:WS :=
 (sSeq (sSet 11 (wCall Z0n (aCons (wVar 8) (aCons (wVar 6) (aCons (w2 rIxTT (wVar 5) (wC (.int 0))) aNil)))))
  (sSeq (sIf (tOrT (tCmpT cNeT (wVar 8) (wTup (aCons (wVar 7) (aCons (wVar 14) (aCons (wVar 15) aNil))))) (tNotT (tVal (wCall Z1p (aCons (wVar 11) (aCons (wVar 9) aNil)))))) (sRet (wC (.bl false))) sNext)
  (sSeq (sIf (tOrT (tCmpT cNeT (wCall Z0n (aCons (wVar 8) (aCons (w2 rSubT (wVar 6) (wC (.int 1))) (aCons (w2 rIxTT (wVar 5) (wC (.int 0))) aNil)))) (wTup (aCons (wC (.int 0)) (aCons (wC (.int 1)) aNil)))) (tCmpT cNeT (wCall Z0n (aCons (wVar 8) (aCons (w2 rAddT (wVar 6) (wC (.int 1))) (aCons (w2 rIxTT (wVar 5) (wC (.int 0))) aNil)))) (wTup (aCons (wC (.int 0)) (aCons (wC (.int 1)) aNil))))) (sRet (wC (.bl false))) sNext)
  (sSeq (sIf (tNotT (tVal (wCall Z1p (aCons (wCall Z0n (aCons (wVar 8) (aCons (w2 rAddT (wVar 6) (wC (.int 3))) (aCons (w2 rIxTT (wVar 5) (wC (.int 0))) aNil)))) (aCons (wVar 10) aNil))))) (sRet (wC (.bl false))) sNext)
  (sSeq (sIf (tNotT (tVal (wCall Z1p (aCons (wCall Z0n (aCons (wVar 8) (aCons (wVar 6) (aCons (w2 rIxTT (wVar 5) (wC (.int 0))) aNil)))) (aCons (wVar 9) aNil))))) (sRet (wC (.bl false))) sNext)
  (sSeq (sFor (iSeq (wLst (aCons (w2 rIxTT (wVar 5) (wC (.int 0))) (aCons (w2 rIxTT (wVar 5) (wC (.int 15))) (aCons (wC (.str (Str.ofString "nobody"))) aNil))))) (gN 12) Z23)
  (sSeq (sFor (iSeq (wVar 14)) (gN 13) Z1q)
  (sRet (wCmp cEqT (wCall Z0n (aCons (wVar 8) (aCons (wVar 6) (aCons (w2 rAddST (w2 rIxTT (wVar 5) (wC (.int 15))) (wSlS (wC (.str (Str.ofString "zz"))) wo0 (wo (w2 rSubT (wC (.int 8)) (wCB rLenST (aCons (w2 rIxTT (wVar 5) (wC (.int 15))) aNil)))))) aNil)))) (wC (.str (Str.ofString "name"))))))))))))
def Z5F:WS :=
 (sSeq (sSet 1 (wCall Z0Q (aCons (wVar 0) (aCons (wC (.int 0)) aNil))))
  (sSeq (sSet 2 (wTup (aCons (w2 rAddT (wC (.int 1)) (wCall Z07 (aCons (wVar 1) (aCons (wC (.int 22)) (aCons (wC (.int 10)) aNil))))) (aCons (w2 rAddT (wC (.int 1)) (wCall Z07 (aCons (wVar 1) (aCons (wC (.int 23)) (aCons (wC (.int 10)) aNil))))) aNil))))
  (sSeq (sSet 3 (wCB rTupleT (aCons (wComp (iRange1 (aCons (wC (.int 3)) aNil)) (gN 0) tTrue Z2R 1 [1]) aNil)))
  (sSeq (sSet 4 (wTup (aCons (w2 rSubT (wCall Z07 (aCons (wVar 1) (aCons (wC (.int 27)) (aCons (wC (.int 7)) aNil)))) (wC (.int 3))) (aCons (w2 rSubT (wCall Z07 (aCons (wVar 1) (aCons (wC (.int 28)) (aCons (wC (.int 7)) aNil)))) (wC (.int 3))) (aCons (w2 rAddT (wC (.int 1)) (wCall Z07 (aCons (wVar 1) (aCons (wC (.int 29)) (aCons (wC (.int 3)) aNil))))) aNil)))))
  (sSeq (sSet 5 (wCall Z22 (aCons (wCall Z0Q (aCons (wVar 0) (aCons (wC (.int 1)) aNil))) (aCons (wC (.int 16)) aNil))))
  (sSeq (sAsg (gT 5 (gsC (gN 14) (gsC (gN 15) (gsC (gN 16) (gsC (gN 17) (gsC (gN 18) gs0)))))) (wCall Z2y (aCons (wVar 0) (aCons (wVar 2) (aCons (wVar 3) (aCons (wVar 4) (aCons (wVar 5) aNil)))))))
  (sSeq (sSet 6 (w2 rAddT (wC (.int 3)) (wCall Z07 (aCons (wVar 1) (aCons (wC (.int 30)) (aCons (wC (.int 90)) aNil))))))
  (sSeq (sSet 7 (wLst (aCons (wTup (aCons (w2 rSubT (wVar 6) (wC (.int 1))) (aCons (wTup (aCons (w2 rIxTT (wVar 4) (wC (.int 0))) (aCons (wC (.int 1)) (aCons (wC (.int 0)) aNil)))) aNil))) (aCons (wTup (aCons (wVar 6) (aCons (wVar 4) aNil))) aNil))))
  (sSeq (sSet 7 (w2 rCatLT (wVar 7) (wLst (aCons (wTup (aCons (w2 rAddT (wVar 6) (wC (.int 1))) (aCons (wTup (aCons (w2 rIxTT (wVar 4) (wC (.int 0))) (aCons (w2 rIxTT (wVar 4) (wC (.int 1))) (aCons (w2 rSubT (wC (.int 0)) (w2 rIxTT (wVar 4) (wC (.int 2)))) aNil)))) aNil))) (aCons (wTup (aCons (w2 rAddT (wVar 6) (wC (.int 3))) (aCons (wTup (aCons (wC (.int 0)) (aCons (wC (.int 0)) (aCons (wC (.int 1)) aNil)))) aNil))) aNil)))))
  (sSeq (sSet 8 (wTup (aCons (wCB rListT (aCons (wVar 7) aNil)) (aCons (wCB rListT (aCons (wVar 14) aNil)) (aCons (wCB rListT (aCons (wVar 15) aNil)) aNil)))))
  (sSeq (sSet 9 (wCall Z2J (aCons (wVar 2) (aCons (wVar 16) aNil))))
  (sSeq (sSet 10 (wCall Z2J (aCons (wVar 2) (aCons (wVar 18) aNil))))
  (sSeq (sIf (tCmpT cEqT (wVar 17) (wC (.int 1))) (sSeq (sSet 9 (wTup (aCons (wC (.int 0)) (aCons (wC (.int 1)) aNil))))
  (sSet 10 (wTup (aCons (wC (.int 0)) (aCons (wC (.int 1)) aNil))))) sNext)
  Z1U)))))))))))))
section
variable {x:Dr}
theorem sun_h(x:Dr):sunAt (sunL x) x.h=some (x.h,x.d):=by
 show List.find? _ _=_
 rw[List.find?_cons_of_neg (by simp only[decide_eq_true_eq];omega),List.find?_cons_of_pos (by simp)]
theorem sun_h1(x:Dr):sunAt (sunL x) (x.h - 1)=some (x.h - 1,(x.d.1,1,0)):=by
 show List.find? _ _=_
 rw[List.find?_cons_of_pos (by simp)]
theorem sun_h2(x:Dr):sunAt (sunL x) (x.h + 1)=some (x.h + 1,(x.d.1,x.d.2.1,0 - x.d.2.2)):=by
 show List.find? _ _=_
 rw[List.find?_cons_of_neg (by simp only[decide_eq_true_eq];omega),List.find?_cons_of_neg (by simp only[decide_eq_true_eq];omega),List.find?_cons_of_pos (by simp)]
theorem sun_h3(x:Dr):sunAt (sunL x) (x.h + 3)=some (x.h + 3,(0,0,1)):=by
 show List.find? _ _=_
 rw[List.find?_cons_of_neg (by simp only[decide_eq_true_eq];omega),List.find?_cons_of_neg (by simp only[decide_eq_true_eq];omega),List.find?_cons_of_neg (by simp only[decide_eq_true_eq];omega),List.find?_cons_of_pos (by simp)]
theorem sun_no(x:Dr):sunAt (sunL x) (x.h + 2)=none:=by
 refine List.find?_eq_none.mpr fun t ht=>?_
 simp only[List.mem_cons,List.not_mem_nil,or_false]at ht
 rcases ht with rfl|rfl|rfl|rfl<;>(simp only[decide_eq_true_eq];omega)
theorem pn_tr(t:Tr):Pn 1 (trT t):=Pn.tup fun y hy=>by
 simp only[List.mem_cons,List.not_mem_nil,or_false]at hy
 rcases hy with rfl|rfl|rfl<;>exact Pn.int _
theorem pn_str{z:Str}(h:SOk z):Pn 0 (.str z):=⟨by simpa [plain,pd,PyData.canLay0] using h,by simp[dep,pd,PyData.depth]⟩
theorem pn_th{t:Th}(h:SOk t.1):Pn 3 (thT t):=by
 obtain⟨n,p,tp⟩:=t
 have hp:Pn 2 (plT p):=Pn.tup fun y hy=>by
  simp only[List.mem_cons,List.not_mem_nil,or_false]at hy
  rcases hy with rfl|rfl|rfl<;>exact pn_tr _
 have hn:Pn 2 (.str n):=(pn_str h).up (by decide)
 cases tp with
 | none =>
  refine Pn.tup fun y hy=>?_
  simp only[List.mem_cons,List.not_mem_nil,or_false]at hy
  rcases hy with rfl|rfl
  ·exact hn
  ·exact hp
 | some t =>
  refine Pn.tup fun y hy=>?_
  simp only[List.mem_cons,List.not_mem_nil,or_false]at hy
  rcases hy with rfl|rfl|rfl
  ·exact hn
  ·exact hp
  ·exact(pn_tr t).up (by decide)
theorem pn_yard(O:DOk x):Pn 5 (yardT (sunL x) (wsL x) (dsL x)):=by
 have hs:=all_sk O
 refine Pn.tup fun y hy=>?_
 simp only[List.mem_cons,List.not_mem_nil,or_false]at hy
 rcases hy with rfl|rfl|rfl
 ·refine(Pn.lst (n:=2) fun t ht=>?_).up (by decide)
  obtain⟨e,_,rfl⟩:=List.mem_map.mp ht
  refine Pn.tup fun y hy=>?_
  simp only[List.mem_cons,List.not_mem_nil,or_false]at hy
  rcases hy with rfl|rfl
  ·exact(Pn.int _).up (by decide)
  ·exact pn_tr _
 ·refine Pn.lst fun t ht=>?_
  obtain⟨e,he,rfl⟩:=List.mem_map.mp ht
  exact pn_th (hs e (List.mem_append_left _ he))
 ·refine Pn.lst fun t ht=>?_
  obtain⟨e,he,rfl⟩:=List.mem_map.mp ht
  exact pn_th (hs e (List.mem_append_right _ he))
theorem al_cal{down:Bool}{W H:Nat}{qs:List BX}{Q:T->Prop}(w1:1<=W)(h1:1<=H)(q:Q (.bl true)):Z1p [litV down W H qs,dueV down W H qs] Q:=by
 refine⟨_,_,rfl,?_,q⟩
 unfold litV dueV
 cases down with
 | true=>exact .inr ⟨0,1,by decide,fr_one 0,fr_one 0⟩
 | false =>
  simp only[Bool.false_eq_true,if_false]
  by_cases z:6 < manyN W H qs
  ·rw[if_pos z,if_pos z];exact .inl ⟨rfl,rfl⟩
  ·rw[if_neg z,if_neg z]
   exact .inr ⟨_,_,Int.mul_ne_zero (by omega) (by omega),rfl,rfl⟩
theorem zz_len{n:Nat}(h1:1<=n)(h2:n<=7):0 < (Txt.slice (Str.ofString "zz") none (some ((8:Int) - n))).length/\(Txt.slice (Str.ofString "zz") none (some ((8:Int) - n))).length<=2/\SOk (Txt.slice (Str.ofString "zz") none (some ((8:Int) - n))):=by
 have:n=1∨n=2∨n=3∨n=4∨n=5∨n=6∨n=7:=by omega
 rcases this with rfl|rfl|rfl|rfl|rfl|rfl|rfl<;>decide +kernel
abbrev stL(x:Dr)(t0:T)(c:Int)(s11 s12 s13:Slot):List Slot:=[.val t0,.val (.int c),.val (.tup [.int x.W,.int x.H]),.val (trT x.l),.val (trT x.d),.val (.lst (nmL x.A x.B)),.val (.int x.h),.val (.lst ((sunL x).map sT)),.val (yardT (sunL x) (wsL x) (dsL x)),.val (dueV x.down x.W x.H (shF x.ps)),.val (dueV x.down x.W x.H (noF x.d x.ps)),s11,s12,s13,.val (.lst ((wsL x).map thT)),.val (.lst ((dsL x).map thT)),.val (.lst ((shF x.ps).map qT)),.val (.int (if x.down then 1 else 0)),.val (.lst ((noF x.d x.ps).map qT))]
theorem sunL_lim(O:DOk x):LimT 3 ((x.d.1,1,0):Tr)/\LimT 3 ((x.d.1,x.d.2.1,0 - x.d.2.2):Tr)/\LimT 3 ((0,0,1):Tr):=by
 obtain⟨a,b,c,e,f,g⟩:=O.o
 have l0:Lim 3 (0:Int):=lim0
 have l1:Lim 3 (1:Int):=lim3 (by decide) (by decide)
 have m1:=lim3 (i:=x.d.1) (by omega) (by omega)
 have m2:=lim3 (i:=x.d.2.1) (by omega) (by omega)
 have m3:=lim3 (i:=0 - x.d.2.2) (by omega) (by omega)
 exact⟨⟨m1,l1,l0⟩,⟨m1,m2,m3⟩,⟨l0,l0,l1⟩⟩
theorem name_eq:EqOk tName tName/\eqT tName tName=true:=⟨eqOk_str (by decide +kernel) (by decide +kernel),by rw[eqT_str];exact decide_eq_true rfl⟩
theorem b1_cal{D:DT}{t0:T}{c:Int}{s11 s12:Slot}{t:Th}(O:DOk x)(ht:t∈wsL x)(h:D.nx (stL x t0 c s11 s12 (.val (thT t)))):Z1q D (stL x t0 c s11 s12 (.val (thT t))):=by
 have hp:=O.p
 have hh:=O.h
 obtain⟨j,hj,je,en⟩:=ws_mem O t ht
 have sk:=all_sk O t (List.mem_append_left _ ht)
 have nn:∀u∈dsL x,u.1≠t.1:=fun u hu e=>by
  rcases ds_mem O u hu with rfl|⟨i,hi,io,eu⟩
  ·have:=nm_inj (by omega) (by omega) (e.trans en)
   omega
  ·rw[eu,en]at e
   have:=nm_inj (by omega) (by omega) e
   omega
 obtain⟨ok,eq⟩:=name_eq
 obtain⟨ST,hST⟩:∃S,S=Z0n:=⟨_,rfl⟩
 have t1:∀Q:T->Prop,Q tName->ST [yardT (sunL x) (wsL x) (dsL x),.int x.h,.str t.1] Q:=fun Q q=>by rw[hST];exact told_name O sk (sun_h x) nn (by omega) q
 have t2:∀Q:T->Prop,Q tName->ST [yardT (sunL x) (wsL x) (dsL x),.int (x.h + 1),.str t.1] Q:=fun Q q=>by rw[hST];exact told_name O sk (sun_h2 x) nn (by omega) q
 obtain⟨r,er⟩:=th_at1 t
 unfold stL at h ⊢
 rw[er]at h ⊢
 generalize yardT (sunL x) (wsL x) (dsL x)=Y at t1 t2 h ⊢
 unfold Z1q
 rw[← hST]
 walk_at "tw"
 refine t1 _ ?_
 refine⟨ok,?_⟩
 rw[eq]
 refine⟨fun z=>(by cases z),fun _=>t2 _ ?_⟩
 refine⟨ok,?_⟩
 rw[eq]
 exact⟨fun z=>(by cases z),fun _=>h⟩
theorem b1_loop{D:DT}{t0:T}{c:Int}{s11 s12:Slot}(O:DOk x)(h:∀s13,D.nx (stL x t0 c s11 s12 s13)):∀(r:List Th)(s13:Slot),(∀t∈r,t∈wsL x)->forT (gN 13) Z1q (r.map thT) D (stL x t0 c s11 s12 s13)
 | [],s13,_=>by
  simp only[List.map,forT]
  exact h _
 | t::r,s13,hr=>by
  have ih:=fun s13=>b1_loop (D:=D) O h r s13 fun t ht=>hr t (List.mem_cons_of_mem _ ht)
  simp only[List.map,forT]
  generalize forT (gN 13) Z1q (r.map thT) D=F at ih ⊢
  exact b1_cal (D:={D with nx:=F,ct:=F,bk:=D.nx}) O (hr t List.mem_cons_self) (ih _)
end
section
variable {x:Dr}
theorem two_noon(x:Dr)(O:DOk x):(((evs true (x.ps.map (noS x.d))++evs false (x.ps.map (noS x.d))).map (shBx x.W x.H)).filter nonE).length=manyN x.W x.H (noF x.d x.ps)/\cnt (covB ((evs true (x.ps.map (noS x.d))++evs false (x.ps.map (noS x.d))).map (shBx x.W x.H))) x.H x.W=cnt (covB ((noF x.d x.ps).map (clB x.W x.H))) x.H x.W:=by
 have:=noS_F x.d (by have:=O.o.d3;omega) x.ps
 rw[← this]
 exact⟨two_many _,two_cov _⟩
theorem law_k0{Q:T->Prop}{t0:T}{c:Int}(O:DOk x)(q:Q (.bl true)):Z1U {nx:=fun _=>Q .non,rt:=Q} (stL x t0 c .no .no .no):=by
 have hh:=O.h
 have hp:=O.p
 obtain⟨l1,l2,l3⟩:=sunL_lim O
 obtain⟨n1,n2⟩:=two_noon x O
 have d3:=O.o.d3
 obtain⟨ST,hST⟩:∃S,S=Z0n:=⟨_,rfl⟩
 obtain⟨SA,hSA⟩:∃S,S=Z1p:=⟨_,rfl⟩
 have t1:∀Q:T->Prop,Q (litV x.down x.W x.H (shF x.ps))->ST [yardT (sunL x) (wsL x) (dsL x),.int x.h,.str (nm0 x)] Q:=fun Q q=>by
  rw[hST]
  exact told_lit O (sun_h x) (lim_l O).2 (by omega) (by omega) (fun u v F=>abt_dir O F) (two_many _) (two_cov _) q
 have t2:∀Q:T->Prop,Q (fra 0 1)->ST [yardT (sunL x) (wsL x) (dsL x),.int (x.h - 1),.str (nm0 x)] Q:=fun Q q=>by
  rw[hST]
  exact told_dark O (sun_h1 x) l1 (by simp) (by omega) q
 have t3:∀Q:T->Prop,Q (fra 0 1)->ST [yardT (sunL x) (wsL x) (dsL x),.int (x.h + 1),.str (nm0 x)] Q:=fun Q q=>by
  rw[hST]
  exact told_dark O (sun_h2 x) l2 (by simp only;omega) (by omega) q
 have t4:∀Q:T->Prop,Q (litV x.down x.W x.H (noF x.d x.ps))->ST [yardT (sunL x) (wsL x) (dsL x),.int (x.h + 3),.str (nm0 x)] Q:=fun Q q=>by
  rw[hST]
  exact told_lit O (sun_h3 x) l3 (by decide) (by omega) (fun u v F=>abt_noon O F) n1 n2 q
 have th:∀(n:Str),SOk n->∀Q:T->Prop,Q (tHour (x.h + 2))->ST [yardT (sunL x) (wsL x) (dsL x),.int (x.h + 2),.str n] Q:=fun n sn Q q=>by
  rw[hST]
  exact told_hour O sn (sun_no x) (by omega) q
 have sn0:SOk (nm0 x):=(nm_sg O.n 0).ok
 have s15:SOk (nmF x.A x.B 15):=(nm_sg O.n 15).ok
 have snb:SOk (Str.ofString "nobody"):=by decide +kernel
 have ln:=nm_len (A:=x.A) (B:=x.B) 15
 have lab:=O.n.len
 obtain⟨z1,z2,z3⟩:=zz_len (n:=(nmF x.A x.B 15).length) (by omega) (by omega)
 have szz:SOk (nmF x.A x.B 15++Txt.slice (Str.ofString "zz") none (some ((8:Int) - ((nmF x.A x.B 15).length:Nat)))):=by
  show PyData.strOk _=true
  rw[strOk_app,s15,z3]
  rfl
 have nzz:∀t∈dsL x,t.1≠nmF x.A x.B 15++Txt.slice (Str.ofString "zz") none (some ((8:Int) - ((nmF x.A x.B 15).length:Nat))):=fun t ht e=>by
  have e2:=congrArg Str.length e
  rw[Str.length_append]at e2
  have e3:t.1.length=x.A.length + x.B.length + 1:=by
   rcases ds_mem O t ht with rfl|⟨j,_,_,en⟩
   ·exact nm_len 0
   ·rw[en];exact nm_len _
  omega
 have tz:∀Q:T->Prop,Q tName->ST [yardT (sunL x) (wsL x) (dsL x),.int x.h,.str (nmF x.A x.B 15++Txt.slice (Str.ofString "zz") none (some ((8:Int) - ((nmF x.A x.B 15).length:Nat))))] Q:=fun Q q=>by
  rw[hST]
  exact told_name O szz (sun_h x) nzz (by omega) q
 have a1:∀Q:T->Prop,Q (.bl true)->SA [litV x.down x.W x.H (shF x.ps),dueV x.down x.W x.H (shF x.ps)] Q:=fun Q q=>by rw[hSA];exact al_cal O.w1 O.h1 q
 have a2:∀Q:T->Prop,Q (.bl true)->SA [litV x.down x.W x.H (noF x.d x.ps),dueV x.down x.W x.H (noF x.d x.ps)] Q:=fun Q q=>by rw[hSA];exact al_cal O.w1 O.h1 q
 have yo:=Pn.ok (pn_yard O) (pn_yard O) (by decide)
 have ye:=Pn.self (pn_yard O)
 have ok01:EqOk (fra 0 1) (fra 0 1):=eqOk_tup [0,1] [0,1]
 have eq01:eqT (fra 0 1) (fra 0 1)=true:=by rw[fr_one,eqT_fr (by decide) (by decide)];exact decide_eq_true rfl
 have pnh:Pn 1 (tHour (x.h + 2)):=Pn.tup fun y hy=>by
  simp only[List.mem_cons,List.not_mem_nil,or_false]at hy
  rcases hy with rfl|rfl
  ·exact pn_str (by decide +kernel)
  ·exact Pn.int _
 have oh:=Pn.ok pnh pnh (by decide)
 have eh:=Pn.self pnh
 obtain⟨on,en⟩:=name_eq
 have at0:=nm_at x.A x.B (k:=0) (by decide)
 have at15:=nm_at x.A x.B (k:=15) (by decide)
 rw[show ((0:Nat):Int)=0 from rfl]at at0
 rw[show ((15:Nat):Int)=15 from rfl]at at15
 have lp:=fun (D:DT) (s11 s12:Slot) (h:∀s13,D.nx (stL x t0 c s11 s12 s13))=>b1_loop (D:=D) (t0:=t0) (c:=c) (s11:=s11) (s12:=s12) O h (wsL x) .no fun t ht=>ht
 unfold Z1U
 unfold stL at lp ⊢
 obtain⟨B0,hB0⟩:∃W,W=Z23:=⟨_,rfl⟩
 obtain⟨B1,hB1⟩:∃W,W=Z1q:=⟨_,rfl⟩
 rw[← hB1]at lp
 rw[← hST,← hSA,← hB0,← hB1]
 obtain⟨N,hN⟩:∃N,N=nmL x.A x.B:=⟨_,rfl⟩
 rw[← hN]at at0 at15 lp ⊢
 obtain⟨v1,hv1⟩:∃v,v=litV x.down x.W x.H (shF x.ps):=⟨_,rfl⟩
 obtain⟨v2,hv2⟩:∃v,v=litV x.down x.W x.H (noF x.d x.ps):=⟨_,rfl⟩
 obtain⟨w1,hw1⟩:∃v,v=dueV x.down x.W x.H (shF x.ps):=⟨_,rfl⟩
 obtain⟨w2,hw2⟩:∃v,v=dueV x.down x.W x.H (noF x.d x.ps):=⟨_,rfl⟩
 rw[← hv1]at t1 a1
 rw[← hv2]at t4 a2
 rw[← hw1]at a1 lp ⊢
 rw[← hw2]at a2 lp ⊢
 obtain⟨y1,hy1⟩:∃v,v=(sunL x).map sT:=⟨_,rfl⟩
 obtain⟨y2,hy2⟩:∃v,v=(wsL x).map thT:=⟨_,rfl⟩
 obtain⟨y3,hy3⟩:∃v,v=(dsL x).map thT:=⟨_,rfl⟩
 have b0:∀(D:DT)(n:Str)(s11 s13:Slot),SOk n->D.nx [.val t0,.val (.int c),.val (.tup [.int x.W,.int x.H]),.val (trT x.l),.val (trT x.d),.val (.lst N),.val (.int x.h),.val (.lst y1),.val (.tup [.lst y1,.lst y2,.lst y3]),.val w1,.val w2,s11,.val (.str n),s13,.val (.lst y2),.val (.lst y3),.val (.lst ((shF x.ps).map qT)),.val (.int (if x.down then 1 else 0)),.val (.lst ((noF x.d x.ps).map qT))]->B0 D [.val t0,.val (.int c),.val (.tup [.int x.W,.int x.H]),.val (trT x.l),.val (trT x.d),.val (.lst N),.val (.int x.h),.val (.lst y1),.val (.tup [.lst y1,.lst y2,.lst y3]),.val w1,.val w2,s11,.val (.str n),s13,.val (.lst y2),.val (.lst y3),.val (.lst ((shF x.ps).map qT)),.val (.int (if x.down then 1 else 0)),.val (.lst ((noF x.d x.ps).map qT))]:=fun D n s11 s13 sn h=>by
  rw[hB0]
  unfold Z23
  rw[← hST]
  walk_at "tw"
  rw[hy1,hy2,hy3]
  refine th n sn _ ⟨oh,?_⟩
  rw[eh]
  rw[hy1,hy2,hy3]at h
  exact⟨fun z=>(by cases z),fun _=>h⟩
 have eY:yardT (sunL x) (wsL x) (dsL x)=.tup [.lst y1,.lst y2,.lst y3]:=by rw[hy1,hy2,hy3]
 rw[eY]at t1 t2 t3 t4 tz yo ye lp ⊢
 rw[← hy1,← hy2,← hy3]at lp ⊢
 obtain⟨q1,hq1⟩:∃v,v=T.lst ((shF x.ps).map qT):=⟨_,rfl⟩
 obtain⟨q2,hq2⟩:∃v,v=T.lst ((noF x.d x.ps).map qT):=⟨_,rfl⟩
 rw[← hq1,← hq2]at lp ⊢ b0
 walk_at "go"
 rw[at0]
 refine t1 _ ?_
 walk_at "go"
 rw[ye]
 walk_at "go"
 refine a1 _ ?_
 walk_at "go"
 rw[at0]
 refine t2 _ ?_
 walk_at "go"
 rw[at0]
 refine t3 _ ?_
 walk_at "go"
 rw[at0]
 refine t4 _ ?_
 walk_at "go"
 refine a2 _ ?_
 walk_at "go"
 rw[at0]
 refine t1 _ ?_
 walk_at "go"
 refine a1 _ ?_
 walk_at "tw"
 rw[at0,at15]
 walk_at "go"
 refine b0 _ _ _ _ sn0 ?_
 walk_at "go"
 refine b0 _ _ _ _ s15 ?_
 walk_at "go"
 refine b0 _ _ _ _ snb ?_
 walk_at "go"
 refine lp _ _ _ fun s13=>?_
 walk_at "tw"
 rw[at15]
 refine⟨by omega,by decide +kernel,by omega,tz _ ⟨on,?_⟩⟩
 rw[en]
 exact q
theorem shF_pos{ps:List Shd}(h:∀s∈ps,SdOk s):∀q∈shF ps,0 < q.2.2.1/\0 < q.2.2.2:=fun q hq=>by
 obtain⟨s,hs,rfl⟩:=List.mem_map.mp hq
 have k:=h s (List.mem_filter.mp hs).1
 exact⟨by have:=k.w;show 0 < s.w;omega,by have:=k.h;show 0 < s.h;omega⟩
theorem noF_pos{d:Tr}{ps:List Shd}(h:∀s∈ps,SdOk s):∀q∈noF d ps,0 < q.2.2.1/\0 < q.2.2.2:=fun q hq=>by
 obtain⟨s,hs,rfl⟩:=List.mem_map.mp hq
 have k:=h s (List.mem_filter.mp hs).1
 exact⟨by have:=k.w;show 0 < s.w;omega,by have:=k.h;show 0 < s.h;omega⟩
theorem Z6a:∀ts Q,lawSp ts Q->Z5F {nx:=fun _=>Q .non,rt:=Q} (startT 19 ts):=by
 rintro _ Q ⟨ns,rfl,hn,q⟩
 obtain⟨SY,hSY⟩:∃S,S=Z2y:=⟨_,rfl⟩
 obtain⟨SI,hSI⟩:∃S,S=Z2J:=⟨_,rfl⟩
 obtain⟨SN,hSN⟩:∃S,S=Z22:=⟨_,rfl⟩
 obtain⟨W0,hW0⟩:∃W,W=Z2R:=⟨_,rfl⟩
 obtain⟨K0,hK0⟩:∃W,W=Z1U:=⟨_,rfl⟩
 unfold Z5F
 rw[← hSY,← hSI,← hSN,← hW0,← hK0]
 walk_at "go"
 refine⟨ns,0,rfl,by decide,fun c=>?_⟩
 walk_at "go"
 refine⟨c,22,10,rfl,by decide,by decide,by decide,by decide,fun W' w0 w1=>?_⟩
 obtain⟨W,rfl⟩:∃W:Nat,W'=W:=⟨W'.toNat,by omega⟩
 walk_at "go"
 refine⟨c,23,10,rfl,by decide,by decide,by decide,by decide,fun H' h0 h1=>?_⟩
 obtain⟨H,rfl⟩:∃H:Nat,H'=H:=⟨H'.toNat,by omega⟩
 have c0:∀(k:Nat)(Q:T->Prop),k < 3->(∀r:Int,-20<=r->r<=20->Q (.int r))->W0 [.val (.int (k:Nat)),.val (.int c)] Q:=fun k Q hk h=>by
  rw[hW0]
  unfold Z2R
  walk_at "go"
  exact⟨c,24 + (k:Int),41,rfl,by omega,by omega,by decide,by decide,fun r r0 r1=>h (r - 20) (by omega) (by omega)⟩
 walk_at "go"
 refine c0 0 _ (by decide) fun l1 a1 b1=>?_
 walk_at "go"
 refine c0 1 _ (by decide) fun l2 a2 b2=>?_
 walk_at "go"
 refine c0 2 _ (by decide) fun l3 a3 b3=>?_
 walk_at "go"
 refine⟨c,27,7,rfl,by decide,by decide,by decide,by decide,fun d1 e1 f1=>?_⟩
 walk_at "go"
 refine⟨c,28,7,rfl,by decide,by decide,by decide,by decide,fun d2 e2 f2=>?_⟩
 walk_at "go"
 refine⟨c,29,3,rfl,by decide,by decide,by decide,by decide,fun d3 e3 f3=>?_⟩
 walk_at "go"
 refine⟨ns,1,rfl,by decide,fun cn=>?_⟩
 walk_at "go"
 rw[hSN]
 refine⟨cn,rfl,fun A B hAB=>?_⟩
 have O:DrOk (l1,l2,l3) (d1 - 3,d2 - 3,1 + d3):=⟨⟨a1,b1⟩,⟨a2,b2⟩,⟨a3,b3⟩,by simp only;omega,by simp only;omega,by simp only;omega⟩
 obtain⟨N,hN⟩:∃N,N=nmL A B:=⟨_,rfl⟩
 rw[← hN]
 walk_at "go"
 rw[hSY,hN]
 refine⟨ns,1 + W,1 + H,(l1,l2,l3),(d1 - 3,d2 - 3,1 + d3),A,B,?_,by omega,by omega,O,fun down ps a hp hs=>?_⟩
 ·simp only[Int.natCast_add,Int.natCast_one]
  rfl
 rw[← hN]
 walk_at "go"
 refine⟨c,30,90,rfl,by decide,by decide,by decide,by decide,fun h g1 g2=>?_⟩
 have X:DOk ⟨1 + W,1 + H,(l1,l2,l3),(d1 - 3,d2 - 3,1 + d3),A,B,down,ps,a,3 + h⟩:=⟨by simp only;omega,by simp only;omega,by simp only;omega,by simp only;omega,O,hAB,hp,hs,by simp only;omega⟩
 have fin:=law_k0 (t0:=.lst (ns.map T.int)) (c:=c) X q
 have ls:(shF ps).length<=15:=by
  unfold shF
  rw[List.length_map]
  exact Nat.le_trans (List.length_filter_le _ _) hp
 have lo:(noF (d1 - 3,d2 - 3,1 + d3) ps).length<=15:=by
  unfold noF
  rw[List.length_map]
  exact Nat.le_trans (List.length_filter_le _ _) hp
 have li:∀(qs:List BX)(Q:T->Prop),qs.length<=15->(∀q∈qs,0 < q.2.2.1/\0 < q.2.2.2)->Q (dueV false (1 + W) (1 + H) qs)->SI [.tup [.int (1 + (W:Int)),.int (1 + (H:Int))],.lst (qs.map qT)] Q:=fun qs Q hl hq h=>by
  rw[hSI]
  refine⟨1 + W,1 + H,qs,by simp only[Int.natCast_add,Int.natCast_one],by omega,by omega,by omega,by omega,hl,hq,fun z=>?_,fun z=>?_⟩
  ·unfold dueV at h
   simp only[Bool.false_eq_true,if_false,if_pos z]at h
   exact h
  ·unfold dueV at h
   simp only[Bool.false_eq_true,if_false,if_neg z]at h
   exact h
 have p1:=shF_pos hs
 have p2:=noF_pos (d:=(d1 - 3,d2 - 3,1 + d3)) hs
 unfold stL yardT wsL dsL fcL at fin
 simp only[Int.natCast_add,Int.natCast_one]at fin
 simp only[sunL,List.map]at fin
 rw[← hN]at fin
 generalize (wlsF A B (l1,l2,l3) (d1 - 3,d2 - 3,1 + d3) 0 ps).map thT=y2 at fin ⊢
 generalize ((dlsF A B (l1,l2,l3) (d1 - 3,d2 - 3,1 + d3) 0 ps).take a++fceD A B (l1,l2,l3) (1 + W) (1 + H) down::(dlsF A B (l1,l2,l3) (d1 - 3,d2 - 3,1 + d3) 0 ps).drop a).map thT=y3 at fin ⊢
 have li1:=fun Q=>li (shF ps) Q ls p1
 have li2:=fun Q=>li (noF (d1 - 3,d2 - 3,1 + d3) ps) Q lo p2
 generalize (shF ps).map qT=q1 at fin li1 ⊢
 generalize (noF (d1 - 3,d2 - 3,1 + d3) ps).map qT=q2 at fin li2 ⊢
 walk_at "go"
 refine li1 _ ?_
 walk_at "go"
 refine li2 _ ?_
 cases down with
 | true =>
  walk_at "tw"
  rw[← hK0]at fin
  refine⟨fun _=>?_,fun z=>absurd z (by decide)⟩
  exact fin
 | false =>
  walk_at "tw"
  rw[← hK0]at fin
  refine⟨fun z=>absurd z (by decide),fun _=>?_⟩
  exact fin
end
local macro_rules|`(tactic| walk_at "v")=>`(tactic| exact⟨by first|exact Or.inl rfl|exact Or.inr (Or.inl rfl)|exact Or.inr (Or.inr rfl),by decide,by decide⟩)
local macro_rules|`(tactic| walk_at "s")=>`(tactic| exact⟨rfl,rfl,rfl,by decide +kernel,rfl,by decide +kernel,by decide +kernel⟩)
local macro_rules|`(tactic| walk_at "f")=>`(tactic| first|exact .inl rfl|exact .inr rfl|assumption)
theorem jV{X:Cx}(i:Nat){x:Str}{pos:Pos}(hN:X.N[i]?=some x) (h:Vis X.env.scope x/\(x==("__debug__" : Str))=false/\(x==("__classdict__" : Str))=false):JE X (.Name x pos) (wVar i):=jv i hN h.1 h.2.1 h.2.2
set_option hygiene false in
local macro_rules|`(tactic| walk_at "E")=>`(tactic| first|((with_reducible show JE _ (.BoolOp .And (_::_::_) _) _);refine @jand _ _ _ _ _ _ _ ?_ ?_;walk_at "D"; walk_at "D")|((with_reducible show JE _ (.BoolOp _ [_] _) _);refine @jone _ _ _ _ _ ?_;walk_at "D")|((with_reducible show JE _ (.Name _ _) (wC c_WHOLE));refine @jglobC _ _ _ _ g_WHOLE rfl (by decide))|((with_reducible show JE _ (.Name _ _) (wC c_MOST_SHADING));refine @jglobC _ _ _ _ g_MOST_SHADING rfl (by decide))|((with_reducible show JE _ _ (wVar _));refine @jV _ _ _ _ rfl (by walk_at "v"))|((with_reducible show JE _ _ (wC (.int _)));refine @ji _ _ _ _)|((with_reducible show JE _ _ (w2 rIxTT _ _));refine @jix _ _ _ _ _ _ ?_ ?_ (fun _ _=>rfl);walk_at "D"; walk_at "D")|((with_reducible show JE _ _ (wTup _));refine @jtup _ _ _ _ _ ?_;walk_at "D")|((with_reducible show JE _ _ (w2 rAddT _ _));refine @jop _ _ _ _ _ _ _ _ b_add ?_ ?_;walk_at "D"; walk_at "D")|((with_reducible show JE _ _ (w2 rMulT _ _));refine @jop _ _ _ _ _ _ _ _ b_mul ?_ ?_;walk_at "D"; walk_at "D")|((with_reducible show JE _ _ (w2 rSubT _ _));refine @jop _ _ _ _ _ _ _ _ b_sub ?_ ?_;walk_at "D"; walk_at "D")|((with_reducible show JE _ _ (wCall Z07 _));refine @jcallC _ _ _ _ _ _ _ _ _ _ Z2o (hr.mono (by omega)) rfl ?_ (by decide) (star1 rfl) (stars rfl);walk_at "D")|((with_reducible show JE _ _ (w2 rModT _ _));refine @jop _ _ _ _ _ _ _ _ b_mod ?_ ?_;walk_at "D"; walk_at "D")|((with_reducible show JE _ _ (wC (.str _)));refine @js _ _ _ _)|((with_reducible show JE _ _ (wLst _));refine @jlst _ _ _ _ ?_;walk_at "D")|((with_reducible show JE _ _ (wCall Z01 _));refine @jcallC _ _ _ _ _ _ _ _ _ _ Z0f (hr.mono (by omega)) rfl ?_ (by decide) (star1 rfl) (stars rfl);walk_at "D")|((with_reducible show JE _ _ (wCall Z00 _));refine @jcallC _ _ _ _ _ _ _ _ _ _ Z02 (hr.mono (by omega)) rfl ?_ (by decide) (star1 rfl) (stars rfl);walk_at "D")|((with_reducible show JE _ _ (wC (.bl _)));refine @jb _ _ _ _)|((with_reducible show JE _ _ (wCall Z0n _));refine @jcallC _ _ _ _ _ _ _ _ _ _ Z5b (hr.mono (by omega)) rfl ?_ (by decide) (star1 rfl) (stars rfl);walk_at "D")|((with_reducible show JE _ _ (wSl _ _ _));refine @jsl _ _ _ _ _ _ _ _ _ ?_ ?_ ?_;walk_at "D"; walk_at "D"; walk_at "D")|((with_reducible show JE _ _ (wCall Z03 _));refine @jcallC _ _ _ _ _ _ _ _ _ _ Z09 (hr.mono (by omega)) rfl ?_ (by decide) (star1 rfl) (stars rfl);walk_at "D")|((with_reducible show JE _ _ (w2 rDivT _ _));refine @jop _ _ _ _ _ _ _ _ b_div ?_ ?_;walk_at "D"; walk_at "D")|((with_reducible show JE _ _ (w2 rCatLT _ _));refine @jop _ _ _ _ _ _ _ _ b_cat ?_ ?_;walk_at "D"; walk_at "D")|((with_reducible show JE _ _ (wC .non));refine @jn _ _ _)|((with_reducible show JE _ _ (w2 rAddST _ _));refine @jop _ _ _ _ _ _ _ _ b_addS ?_ ?_;walk_at "D"; walk_at "D")|((with_reducible show JE _ _ (wCmp cEqT _ _));refine @jcmp _ _ _ _ _ _ _ _ (c_eq hr) ?_ ?_ (nomark _);walk_at "D"; walk_at "D")|((with_reducible show JE _ _ (wCall Z0Q _));refine @jcallC _ _ _ _ _ _ _ _ _ _ Z2z (hr.mono (by omega)) rfl ?_ (by decide) (star1 rfl) (stars rfl);walk_at "D")|((with_reducible show JE _ _ (wCall Z0i _));refine @jcallC _ _ _ _ _ _ _ _ _ _ Z11 (hr.mono (by omega)) rfl ?_ (by decide) (star1 rfl) (stars rfl);walk_at "D")|((with_reducible show JE _ _ (wCB rListT _));refine @jty _ _ _ _ _ _ _ _ _ ty_list rfl z_list boot_list ?_ (by decide) (by decide) (star1 rfl) (stars rfl);walk_at "D")|((with_reducible show JE _ _ (wCB rLenT _));refine @jblt _ _ _ _ _ _ _ _ _ bl_len rfl z_len boot_len ?_ (by decide) (by decide) (star1 rfl) (stars rfl);walk_at "D")|((with_reducible show JE _ _ (w2 rPowT _ _));refine @jop _ _ _ _ _ _ _ _ b_pow ?_ ?_;walk_at "D"; walk_at "D")|((with_reducible show JE _ _ (w2 rIxST _ _));refine @jixS _ _ _ _ _ _ ?_ ?_ (fun _ _=>rfl);walk_at "D"; walk_at "D")|((with_reducible show JE _ _ (wCB rIntT _));refine @jty _ _ _ _ _ _ _ _ _ ty_int rfl z_int boot_int ?_ (by decide) (by decide) (star1 rfl) (stars rfl);walk_at "D")|((with_reducible show JE _ _ (wSlS _ _ _));refine @jslS _ _ _ _ _ _ _ _ _ ?_ ?_ ?_;walk_at "D"; walk_at "D"; walk_at "D")|((with_reducible show JE _ _ (wNeg _));refine @jneg _ _ _ _ ?_;walk_at "D")|((with_reducible show JE _ _ (wCall Z1m _));refine @jcallC _ _ _ _ _ _ _ _ _ _ Z4p (hr.mono (by omega)) rfl ?_ (by decide) (star1 rfl) (stars rfl);walk_at "D")|((with_reducible show JE _ _ (wNotV _));refine @jnot _ _ _ _ ?_;walk_at "D")|((with_reducible show JE _ _ (wIsi .bool _));refine @jisi _ _ _ _ .bool _ _ _ ?_ rfl z_isinstance rfl z_bool boot_bool (by decide) (by decide) (star1 rfl) (star1 rfl) (stars rfl);walk_at "D")|((with_reducible show JE _ _ (wCall Z0M _));refine @jcallC _ _ _ _ _ _ _ _ _ _ Z2c (hr.mono (by omega)) rfl ?_ (by decide) (star1 rfl) (stars rfl);walk_at "D")|((with_reducible show JE _ _ (wCall Z0P _));refine @jcallC _ _ _ _ _ _ _ _ _ _ Z2d (hr.mono (by omega)) rfl ?_ (by decide) (star1 rfl) (stars rfl);walk_at "D")|((with_reducible show JE _ _ (wCall Z0z _));refine @jcallC _ _ _ _ _ _ _ _ _ _ Z1z (hr.mono (by omega)) rfl ?_ (by decide) (star1 rfl) (stars rfl);walk_at "D")|((with_reducible show JE _ _ (wCall Z0A _));refine @jcallC _ _ _ _ _ _ _ _ _ _ Z1Y (hr.mono (by omega)) rfl ?_ (by decide) (star1 rfl) (stars rfl);walk_at "D")|((with_reducible show JE _ _ (wCall Z0N _));refine @jcallC _ _ _ _ _ _ _ _ _ _ Z2e (hr.mono (by omega)) rfl ?_ (by decide) (star1 rfl) (stars rfl);walk_at "D")|((with_reducible show JE _ _ (wCall Z1p _));refine @jcallC _ _ _ _ _ _ _ _ _ _ Z4q (hr.mono (by omega)) rfl ?_ (by decide) (star1 rfl) (stars rfl);walk_at "D")|((with_reducible show JE _ _ (wCB rLenST _));refine @jblt _ _ _ _ _ _ _ _ _ bl_lenS rfl z_len boot_len ?_ (by decide) (by decide) (star1 rfl) (stars rfl);walk_at "D")|((with_reducible show JE _ _ (wCmp cGtT _ _));refine @jcmp _ _ _ _ _ _ _ _ c_gt ?_ ?_ (nomark _);walk_at "D"; walk_at "D")|((with_reducible show JE _ _ (wCall Z2n _));refine @jcallC _ _ _ _ _ _ _ _ _ _ Z5G (hr.mono (by omega)) rfl ?_ (by decide) (star1 rfl) (stars rfl);walk_at "D")|((with_reducible show JE _ _ (wCB rMinT _));refine @jblt _ _ _ _ _ _ _ _ _ (bl_min rfl) rfl z_min boot_min ?_ (by decide) (by decide) (star1 rfl) (stars rfl);walk_at "D")|((with_reducible show JE _ _ (wCB rMaxT _));refine @jblt _ _ _ _ _ _ _ _ _ (bl_max rfl) rfl z_max boot_max ?_ (by decide) (by decide) (star1 rfl) (stars rfl);walk_at "D")|((with_reducible show JE _ _ (wCall Z1w _));refine @jcallC _ _ _ _ _ _ _ _ _ _ Z2S (hr.mono (by omega)) rfl ?_ (by decide) (star1 rfl) (stars rfl);walk_at "D")|((with_reducible show JE _ _ (wCall Z0F _));refine @jcallC _ _ _ _ _ _ _ _ _ _ Z1N (hr.mono (by omega)) rfl ?_ (by decide) (star1 rfl) (stars rfl);walk_at "D")|((with_reducible show JE _ _ (wCall Z0O _));refine @jcallC _ _ _ _ _ _ _ _ _ _ Z3g (hr.mono (by omega)) rfl ?_ (by decide) (star1 rfl) (stars rfl);walk_at "D")|((with_reducible show JE _ _ (wCall Z05 _));refine @jcallC _ _ _ _ _ _ _ _ _ _ Z2A (hr.mono (by omega)) rfl ?_ (by decide) (star1 rfl) (stars rfl);walk_at "D")|((with_reducible show JE _ _ (wCall Z0B _));refine @jcallC _ _ _ _ _ _ _ _ _ _ Z12 (hr.mono (by omega)) rfl ?_ (by decide) (star1 rfl) (stars rfl);walk_at "D")|((with_reducible show JE _ _ (wCall Z0m _));refine @jcallC _ _ _ _ _ _ _ _ _ _ Z1f (hr.mono (by omega)) rfl ?_ (by decide) (star1 rfl) (stars rfl);walk_at "D")|((with_reducible show JE _ _ (wCall Z1i _));refine @jcallC _ _ _ _ _ _ _ _ _ _ Z1A (hr.mono (by omega)) rfl ?_ (by decide) (star1 rfl) (stars rfl);walk_at "D")|((with_reducible show JE _ _ (wCall Z2J _));refine @jcallC _ _ _ _ _ _ _ _ _ _ Z5H (hr.mono (by omega)) rfl ?_ (by decide) (star1 rfl) (stars rfl);walk_at "D")|((with_reducible show JE _ _ (w2 rMulST _ _));refine @jop _ _ _ _ _ _ _ _ b_mulS ?_ ?_;walk_at "D"; walk_at "D")|((with_reducible show JE _ _ (wCall Z2r _));refine @jcallC _ _ _ _ _ _ _ _ _ _ Z4r (hr.mono (by omega)) rfl ?_ (by decide) (star1 rfl) (stars rfl);walk_at "D")|((with_reducible show JE _ _ (wCall Z3o _));refine @jcallC _ _ _ _ _ _ _ _ _ _ Z5I (hr.mono (by omega)) rfl ?_ (by decide) (star1 rfl) (stars rfl);walk_at "D")|((with_reducible show JE _ _ (wIsi .int _));refine @jisi _ _ _ _ .int _ _ _ ?_ rfl z_isinstance rfl z_int boot_int (by decide) (by decide) (star1 rfl) (star1 rfl) (stars rfl);walk_at "D")|((with_reducible show JE _ _ (wIsi .str _));refine @jisi _ _ _ _ .str _ _ _ ?_ rfl z_isinstance rfl z_str boot_str (by decide) (by decide) (star1 rfl) (star1 rfl) (stars rfl);walk_at "D")|((with_reducible show JE _ _ (wCB rAbsT _));refine @jblt _ _ _ _ _ _ _ _ _ bl_abs rfl z_abs boot_abs ?_ (by decide) (by decide) (star1 rfl) (stars rfl);walk_at "D")|((with_reducible show JE _ _ (wCall Z0s _));refine @jcallC _ _ _ _ _ _ _ _ _ _ Z1T (hr.mono (by omega)) rfl ?_ (by decide) (star1 rfl) (stars rfl);walk_at "D")|((with_reducible show JE _ _ (wCall Z1j _));refine @jcallC _ _ _ _ _ _ _ _ _ _ Z33 (hr.mono (by omega)) rfl ?_ (by decide) (star1 rfl) (stars rfl);walk_at "D")|((with_reducible show JE _ _ (wCall Z0H _));refine @jcallC _ _ _ _ _ _ _ _ _ _ Z24 (hr.mono (by omega)) rfl ?_ (by decide) (star1 rfl) (stars rfl);walk_at "D")|((with_reducible show JE _ _ (wCmp cLtT _ _));refine @jcmp _ _ _ _ _ _ _ _ c_lt ?_ ?_ (nomark _);walk_at "D"; walk_at "D")|((with_reducible show JE _ _ (wCall Z0v _));refine @jcallC _ _ _ _ _ _ _ _ _ _ Z1Z (hr.mono (by omega)) rfl ?_ (by decide) (star1 rfl) (stars rfl);walk_at "D")|((with_reducible show JE _ _ (wCall Z0l _));refine @jcallC _ _ _ _ _ _ _ _ _ _ Z2i (hr.mono (by omega)) rfl ?_ (by decide) (star1 rfl) (stars rfl);walk_at "D")|((with_reducible show JE _ _ (wCall Z0G _));refine @jcallC _ _ _ _ _ _ _ _ _ _ Z2O (hr.mono (by omega)) rfl ?_ (by decide) (star1 rfl) (stars rfl);walk_at "D")|((with_reducible show JE _ _ (wCall Z1e _));refine @jcallC _ _ _ _ _ _ _ _ _ _ Z3h (hr.mono (by omega)) rfl ?_ (by decide) (star1 rfl) (stars rfl);walk_at "D")|((with_reducible show JE _ _ (wCmp cLeT _ _));refine @jcmp _ _ _ _ _ _ _ _ c_le ?_ ?_ (nomark _);walk_at "D"; walk_at "D")|((with_reducible show JE _ _ (wCall Z1a _));refine @jcallC _ _ _ _ _ _ _ _ _ _ Z2P (hr.mono (by omega)) rfl ?_ (by decide) (star1 rfl) (stars rfl);walk_at "D")|((with_reducible show JE _ _ (wCall Z14 _));refine @jcallC _ _ _ _ _ _ _ _ _ _ Z34 (hr.mono (by omega)) rfl ?_ (by decide) (star1 rfl) (stars rfl);walk_at "D")|((with_reducible show JE _ _ (wCall Z0e _));refine @jcallC _ _ _ _ _ _ _ _ _ _ Z1L (hr.mono (by omega)) rfl ?_ (by decide) (star1 rfl) (stars rfl);walk_at "D")|((with_reducible show JE _ _ (wCall Z0x _));refine @jcallC _ _ _ _ _ _ _ _ _ _ Z2j (hr.mono (by omega)) rfl ?_ (by decide) (star1 rfl) (stars rfl);walk_at "D")|((with_reducible show JE _ _ (wIsi .tuple _));refine @jisi _ _ _ _ .tuple _ _ _ ?_ rfl z_isinstance rfl z_tuple boot_tuple (by decide) (by decide) (star1 rfl) (star1 rfl) (stars rfl);walk_at "D")|((with_reducible show JE _ _ (wCall Z22 _));refine @jcallC _ _ _ _ _ _ _ _ _ _ Z4s (hr.mono (by omega)) rfl ?_ (by decide) (star1 rfl) (stars rfl);walk_at "D")|((with_reducible show JE _ _ (wCall Z2y _));refine @jcallC _ _ _ _ _ _ _ _ _ _ Z5c (hr.mono (by omega)) rfl ?_ (by decide) (star1 rfl) (stars rfl);walk_at "D")|((with_reducible show JE _ _ Z19);unfold Z19;walk_at "D")|((with_reducible show JE _ _ Z1h);unfold Z1h;walk_at "D")|((with_reducible show JE _ _ Z1k);unfold Z1k;walk_at "D")|((with_reducible show JE _ _ Z1l);unfold Z1l;walk_at "D")|((with_reducible show JE _ _ Z0L);unfold Z0L;walk_at "D")|((with_reducible show JE _ _ Z0Y);unfold Z0Y;walk_at "D")|((with_reducible show JE _ _ Z0k);unfold Z0k;walk_at "D")|((with_reducible show JE _ _ Z1x);unfold Z1x;walk_at "D")|((with_reducible show JE _ _ Z2R);unfold Z2R;walk_at "D"))
set_option hygiene false in
local macro_rules|`(tactic| walk_at "A")=>`(tactic| first|((with_reducible show JA _ _ (aCons _ _));refine @ja _ _ _ _ _ ?_ ?_ (star1 rfl);walk_at "D"; walk_at "D")|((with_reducible show JA _ _ aNil);refine @ja0 _))
set_option hygiene false in
local macro_rules|`(tactic| walk_at "S")=>`(tactic| first|((with_reducible show JS _ _ (sSet _ _));refine @jset _ _ _ _ _ _ _ nd rfl (by walk_at "l") ?_ (by rfl) (by walk_at "f");walk_at "D")|((with_reducible show JS _ _ (sRet _));refine @jret _ _ _ _ ?_;walk_at "D")|((with_reducible show JS _ _ (sIf _ _ _));refine @jsif _ _ _ _ _ _ _ _ ?_ ?_ ?_;walk_at "D"; walk_at "D"; walk_at "D")|((with_reducible show JS _ _ (sOwn _ _));refine @jown _ _ _ _ _ _ _ _ nd rfl (by walk_at "l") ?_ (by rfl) (by walk_at "f");walk_at "D")|((with_reducible show JS _ _ (sAsg _ _));refine @jasg _ _ _ _ _ _ ?_ ?_ (by rfl) (by rfl) (by rfl);walk_at "D"; walk_at "D")|((with_reducible show JS _ _ (sFor _ _ _));refine @jfor _ _ _ _ _ _ _ _ PassesOwn.never rfl ?_ ?_ ?_ (fun _=>rfl);walk_at "D"; walk_at "D"; walk_at "D")|((with_reducible show JS _ _ (sPar _ _ _));refine @jpar _ _ _ _ _ _ _ _ _ _ _ _ _ _ _ rfl nd rfl rfl (by decide) rfl rfl ?_ rfl (by rfl);walk_at "D")|((with_reducible show JS _ _ Z0h);unfold Z0h;walk_at "D")|((with_reducible show JS _ _ Z18);unfold Z18;walk_at "D")|((with_reducible show JS _ _ Z0b);unfold Z0b;walk_at "D")|((with_reducible show JS _ _ Z04);unfold Z04;walk_at "D")|((with_reducible show JS _ _ Z06);unfold Z06;walk_at "D")|((with_reducible show JS _ _ Z0C);unfold Z0C;walk_at "D")|((with_reducible show JS _ _ (Z0c _));unfold Z0c;walk_at "D")|((with_reducible show JS _ _ (Z08 _));unfold Z08;walk_at "D")|((with_reducible show JS _ _ (Z0j _));unfold Z0j;walk_at "D")|((with_reducible show JS _ _ (Z0D _));unfold Z0D;walk_at "D")|((with_reducible show JS _ _ (Z13 _));unfold Z13;walk_at "D")|((with_reducible show JS _ _ Z0J);unfold Z0J;walk_at "D")|((with_reducible show JS _ _ Z2q);unfold Z2q;walk_at "D")|((with_reducible show JS _ _ Z0R);unfold Z0R;walk_at "D")|((with_reducible show JS _ _ Z1S);unfold Z1S;walk_at "D")|((with_reducible show JS _ _ Z15);unfold Z15;walk_at "D")|((with_reducible show JS _ _ Z1y);unfold Z1y;walk_at "D")|((with_reducible show JS _ _ Z1n);unfold Z1n;walk_at "D")|((with_reducible show JS _ _ Z1C);unfold Z1C;walk_at "D")|((with_reducible show JS _ _ Z1o);unfold Z1o;walk_at "D")|((with_reducible show JS _ _ Z23);unfold Z23;walk_at "D")|((with_reducible show JS _ _ Z1q);unfold Z1q;walk_at "D")|((with_reducible show JS _ _ Z1U);unfold Z1U;walk_at "D"))
set_option hygiene false in
local macro_rules|`(tactic| walk_at "B")=>`(tactic| first|((with_reducible show JSs _ _ Z0h);unfold Z0h;walk_at "D")|((with_reducible show JSs _ _ Z18);unfold Z18;walk_at "D")|((with_reducible show JSs _ _ Z0V);unfold Z0V;walk_at "D")|((with_reducible show JSs _ _ Z0b);unfold Z0b;walk_at "D")|((with_reducible show JSs _ _ Z04);unfold Z04;walk_at "D")|((with_reducible show JSs _ _ Z0d);unfold Z0d;walk_at "D")|((with_reducible show JSs _ _ Z06);unfold Z06;walk_at "D")|((with_reducible show JSs _ _ Z0C);unfold Z0C;walk_at "D")|((with_reducible show JSs _ _ (Z0c _));unfold Z0c;walk_at "D")|((with_reducible show JSs _ _ (Z08 _));unfold Z08;walk_at "D")|((with_reducible show JSs _ _ (Z0j _));unfold Z0j;walk_at "D")|((with_reducible show JSs _ _ (Z0D _));unfold Z0D;walk_at "D")|((with_reducible show JSs _ _ (Z13 _));unfold Z13;walk_at "D")|((with_reducible show JSs _ _ Z0J);unfold Z0J;walk_at "D")|((with_reducible show JSs _ _ Z1Q);unfold Z1Q;walk_at "D")|((with_reducible show JSs _ _ Z1R);unfold Z1R;walk_at "D")|((with_reducible show JSs _ _ Z2q);unfold Z2q;walk_at "D")|((with_reducible show JSs _ _ Z0R);unfold Z0R;walk_at "D")|((with_reducible show JSs _ _ Z1S);unfold Z1S;walk_at "D")|((with_reducible show JSs _ _ Z15);unfold Z15;walk_at "D")|((with_reducible show JSs _ _ Z1y);unfold Z1y;walk_at "D")|((with_reducible show JSs _ _ Z1n);unfold Z1n;walk_at "D")|((with_reducible show JSs _ _ Z1C);unfold Z1C;walk_at "D")|((with_reducible show JSs _ _ Z1o);unfold Z1o;walk_at "D")|((with_reducible show JSs _ _ Z23);unfold Z23;walk_at "D")|((with_reducible show JSs _ _ Z1q);unfold Z1q;walk_at "D")|((with_reducible show JSs _ _ Z1U);unfold Z1U;walk_at "D")|((with_reducible show JSs _ [_] _);refine @js1 _ _ _ ?_;walk_at "D")|((with_reducible show JSs _ _ (sSeq _ _));refine @jsc _ _ _ _ _ ?_ ?_;walk_at "D"; walk_at "D")|((with_reducible show JSs _ [] _);refine @js0 _))
set_option hygiene false in
local macro_rules|`(tactic| walk_at "T")=>`(tactic| first|((with_reducible show JT _ (.BoolOp _ _ _) _);refine @jw _ _ _ ?_;walk_at "D")|((with_reducible show JT _ _ (tCmpT cNeT _ _));refine @tcmp _ _ _ _ _ _ _ _ (c_ne hr) ?_ ?_ (nomark _);walk_at "D"; walk_at "D")|((with_reducible show JT _ _ (tVal _));refine @tval _ _ _ ?_ (fun _=>rfl);walk_at "D")|((with_reducible show JT _ _ (tNotT _));refine @tnot _ _ _ _ ?_;walk_at "D")|((with_reducible show JT _ _ (tCmpT cEqT _ _));refine @tcmp _ _ _ _ _ _ _ _ (c_eq hr) ?_ ?_ (nomark _);walk_at "D"; walk_at "D")|((with_reducible show JT _ _ (tCmpT cGtT _ _));refine @tcmp _ _ _ _ _ _ _ _ c_gt ?_ ?_ (nomark _);walk_at "D"; walk_at "D")|((with_reducible show JT _ _ (tCmpT cLtT _ _));refine @tcmp _ _ _ _ _ _ _ _ c_lt ?_ ?_ (nomark _);walk_at "D"; walk_at "D")|((with_reducible show JT _ _ (tCmpT cGeT _ _));refine @tcmp _ _ _ _ _ _ _ _ c_ge ?_ ?_ (nomark _);walk_at "D"; walk_at "D")|((with_reducible show JT _ _ (tChainT cLeT cLtT _ _ _));refine @tchain _ _ _ _ _ _ _ _ _ _ _ _ c_le c_lt ?_ ?_ ?_ (by with_unfolding_all rfl);walk_at "D"; walk_at "D"; walk_at "D")|((with_reducible show JT _ _ (tTruT _));refine @ttru _ _ _ ?_ (fun _=>rfl);walk_at "D")|((with_reducible show JT _ _ (tCmpT cIsN _ _));refine @tcmp _ _ _ _ _ _ _ _ c_is ?_ ?_ (nomark _);walk_at "D"; walk_at "D"))
set_option hygiene false in
local macro_rules|`(tactic| walk_at "W")=>`(tactic| first|((with_reducible show JW _ (.BoolOp .Or [_] _) _);refine @tor1 _ _ _ _ ?_;walk_at "D")|((with_reducible show JW _ (.BoolOp .Or (_::_::_) _) _);refine @tor _ _ _ _ _ _ _ ?_ ?_;walk_at "D"; walk_at "D")|((with_reducible show JW _ (.BoolOp .And (_::_::_) _) _);refine @tand _ _ _ _ _ _ _ ?_ ?_;walk_at "D"; walk_at "D")|((with_reducible show JW _ (.BoolOp .And [_] _) _);refine @tand1 _ _ _ _ ?_;walk_at "D"))
set_option hygiene false in
local macro_rules|`(tactic| walk_at "G")=>`(tactic| first|((with_reducible show JG _ _ (gN _));refine @jg _ _ _ _ nd rfl (by walk_at "l") (by walk_at "f"))|((with_reducible show JG _ _ (gT _ _));refine @jgt _ _ _ _ _ _ rfl ?_ (by rfl) (by rfl);walk_at "D"))
set_option hygiene false in
local macro_rules|`(tactic| walk_at "H")=>`(tactic| first|((with_reducible show JGs _ _ (gsC _ _));refine @jgsc _ _ _ _ _ ?_ ?_ (by rfl);walk_at "D"; walk_at "D")|((with_reducible show JGs _ _ gs0);refine @jgs0 _))
set_option hygiene false in
local macro_rules|`(tactic| walk_at "I")=>`(tactic| first|((with_reducible show JI _ _ _ (iSeq _));refine @jiSeq _ _ _ _ ?_;walk_at "D")|((with_reducible show JI _ _ _ (iRange1 _));refine @jiRange1 _ _ _ _ _ _ rfl z_range ?_ (by rfl);walk_at "D")|((with_reducible show JI _ _ _ (iEnum _));refine @jiEnum _ _ _ _ _ _ _ _ rfl z_enumerate ?_ (by rfl);walk_at "D"))
set_option hygiene false in
local macro_rules|`(tactic| walk_at "O")=>`(tactic| first|((with_reducible show JO _ _ (wo _));refine @jo _ _ _ ?_;walk_at "D")|((with_reducible show JO _ _ wo0);refine @jo0 _))
local macro_rules|`(tactic| walk_at "l")=>`(tactic| first|exact Or.inl rfl|exact Or.inr rfl)
local macro_rules|`(tactic| walk_at "D")=>`(tactic| first|((with_reducible show JE _ _ _);walk_at "E")|((with_reducible show JA _ _ _);walk_at "A")|((with_reducible show JS _ _ _);walk_at "S")|((with_reducible show JSs _ _ _);walk_at "B")|((with_reducible show JT _ _ _);walk_at "T")|((with_reducible show JW _ _ _);walk_at "W")|((with_reducible show JG _ _ _);walk_at "G")|((with_reducible show JGs _ _ _);walk_at "H")|((with_reducible show JI _ _ _ _);walk_at "I")|((with_reducible show JO _ _ _);walk_at "O"))
theorem fnTno{P:Program}{w:World}{K:PySem.W.Frag}{mg:Str->Option Value}{base:Heap}{x qual:Str}{st:Stmt}{f:Addr}{fd:FuncData}{N ps:List Str}{k:Nat}{S:SpT}(F:Fun K x qual st f fd)(SC:FnScope N ps (defScope st))
  (hlen:∀ts Q,S ts Q->ts.length=ps.length) (hno:∀ts Q,¬ S ts Q):FnT P w K mg base (k + 1) f fd ps S:=by
 refine⟨F.ok SC (fun vs H Q E h=>?_) (fun cdv A outer s H vs Q E hr h=>?_),hlen⟩
 ·obtain⟨_,_,e,_⟩:=h
  exact e
 ·obtain⟨ts,Q0,e,r,hS,q⟩:=h
  exact(hno _ _ hS).elim
def top(i:Nat):Stmt:=PySem.Challenge.pw_dialyard_k76_lit_counted.main.body.getD i (.Pass ⟨0,0,0,0⟩)
abbrev ini_NoHour:Stmt:=inSt (top 7)
theorem sc_ini_NoHour:FnScope ["self", "hour"] ["self", "hour"] (defScope ini_NoHour):=by walk_at "s"
section
variable {P:Program} {w:World} {K:PySem.W.Frag} {mg:Str->Option Value} {base:Heap}
abbrev Z1V:Stmt:=top 57
theorem Z42:FnScope ["_law_script", "_law_k"] ["_law_script", "_law_k"] (defScope Z1V):=by walk_at "s"
theorem Z5r{f:Addr}{fd:FuncData} (F:Fun K "_law_cell_at" "_law_cell_at" Z1V f fd) (m:mg "_law_cell_at" = some (.ref f)) (z_len:mg "len" = none):Cal P w K mg base 1 "_law_cell_at" ["_law_script", "_law_k"] Z0Q :=
 .mk F m (F.binds fun _ _ _ _ _ _ us hl=>args2 hl fun _ _=>rfl) (fnT (W:=Z32) F Z42 Z57 (fun cdv A outer s H E hr=>by have nd:=Z42.nd;unfold Z32;walk_at "D") Z5q)
abbrev Z2T:Stmt:=top 58
theorem Z5s:FnScope ["_law_cell", "_law_k", "_law_many", "_law_number", "_law_left", "_law_j"] ["_law_cell", "_law_k", "_law_many"] (defScope Z2T):=by walk_at "s"
theorem Z64{f:Addr}{fd:FuncData} (F:Fun K "_law_draw" "_law_draw" Z2T f fd) (m:mg "_law_draw" = some (.ref f)) (z_range:mg "range" = none):Cal P w K mg base 1 "_law_draw" ["_law_cell", "_law_k", "_law_many"] Z07 :=
 .mk F m (F.binds fun _ _ _ _ _ _ us hl=>args3 hl fun _ _ _=>rfl) (fnT (W:=Z4c) F Z5s Z5N (fun cdv A outer s H E hr=>by have nd:=Z5s.nd;unfold Z4c;walk_at "D") Z5Y)
abbrev Z25:Stmt:=top 59
theorem Z3Y:FnScope ["_law_cell", "_law_many", "_law_letters", "_law_stem", "_law_at", "_law_found", "_law_k", "_law_sign"] ["_law_cell", "_law_many"] (defScope Z25):=by walk_at "s"
theorem Z5T{f:Addr}{fd:FuncData} (F:Fun K "_law_names" "_law_names" Z25 f fd) (m:mg "_law_names" = some (.ref f)) (Z2o:Cal P w K mg base 1 "_law_draw" ["_law_cell", "_law_k", "_law_many"] Z07) (z_range:mg "range" = none) (z_len:mg "len" = none) (z_int:mg "int" = none):Cal P w K mg base 2 "_law_names" ["_law_cell", "_law_many"] Z22 :=
 .mk F m (F.binds fun _ _ _ _ _ _ us hl=>args2 hl fun _ _=>rfl) (fnT (W:=Z4n) F Z3Y Z5A (fun cdv A outer s H E hr=>have nd:=Z3Y.nd;
  (@jsc _ _ _ _ _ (by walk_at "D") (@jsc _ _ _ _ _ (@jset _ _ _ _ (3) _ _ Z3Y.nd rfl (Or.inl rfl) (@jjoin _ _ _ _ _ _ _ (@js _ _ _ _) (@jcomp _ _ _ _ _ _ _ (defScope Z25) (["_law_k"]) (["_law_cell" , "_law_many" , "_law_letters" , "_law_stem" , "_law_at" , "_law_found" , "_law_k" , "_law_sign"]) ([("_law_letters" , 2) , ("_law_cell" , 0)]) _ _ _ _ rfl rfl rfl (by walk_at "D") rfl rfl (by decide +kernel) (by decide +kernel) (by decide +kernel) (by decide +kernel) (fun cl C s3 H2 ex=>(@jg _ _ (0) _ (show List.Nodup (["_law_k" , "_law_letters" , "_law_cell"]:List Str) from by decide +kernel) rfl (Or.inl rfl) (by walk_at "f"))) (fun cl C s3 H2 ex=>(@jts0 _)) (fun cl C s3 H2 ex=>(by walk_at "D")) (fun _=>rfl)) (star1 rfl) (by rfl) (by rfl) (by rfl)) (by rfl) (by walk_at "f")) (@jsc _ _ _ _ _ (by walk_at "D") (@jsc _ _ _ _ _ (by walk_at "D") (@jsc _ _ _ _ _ (@jfor _ _ _ _ _ _ _ _ PassesOwn.never rfl (by walk_at "D") (by walk_at "D") (@jsc _ _ _ _ _ (by walk_at "D") (@js1 _ _ _ (@japp _ _ _ _ _ _ _ _ _ (pv 5) (by walk_at "D") (by rfl) (by rfl) (by rfl) (by rfl) (by rfl) (by rfl)))) (fun _=>rfl)) (@jfrz _ _ 5 _ (@js1 _ _ _ (by walk_at "D"))))))))) Z5O)
abbrev Z2s:Stmt:=top 61
theorem Z4S:FnScope ["_law_low_here", "_law_size", "_law_way", "_law_some", "_law_x", "_law_y", "_law_z", "_law_wide", "_law_high"] ["_law_low_here", "_law_size", "_law_way"] (defScope Z2s):=by walk_at "s"
theorem Z5U{f:Addr}{fd:FuncData} (F:Fun K "_law_level" "_law_level" Z2s f fd) (m:mg "_law_level" = some (.ref f)):Cal P w K mg base 1 "_law_level" ["_law_low_here", "_law_size", "_law_way"] Z1m :=
 .mk F m (F.binds fun _ _ _ _ _ _ us hl=>args3 hl fun _ _ _=>rfl) (fnT (W:=Z4o) F Z4S Z5B (fun cdv A outer s H E hr=>have nd:=Z4S.nd;
  (@jsc _ _ _ _ _ (by walk_at "D") (@jsc _ _ _ _ _ (by walk_at "D") (@jsc _ _ _ _ _ (by walk_at "D") (@jsc _ _ _ _ _ (@japp _ _ _ _ _ _ _ _ _ (pv 3) (by walk_at "D") (by rfl) (by rfl) (by rfl) (by rfl) (by rfl) (by rfl)) (@jsc _ _ _ _ _ (@japp _ _ _ _ _ _ _ _ _ (pv 3) (by walk_at "D") (by rfl) (by rfl) (by rfl) (by rfl) (by rfl) (by rfl)) (@jfrz _ _ 3 _ (@js1 _ _ _ (by walk_at "D"))))))))) Z5P)
abbrev Z3p:Stmt:=top 62
theorem Z5K:FnScope ["_law_plate", "_law_way", "_law_x", "_law_y", "_law_z"] ["_law_plate", "_law_way"] (defScope Z3p):=by walk_at "s"
theorem Z6b{f:Addr}{fd:FuncData} (F:Fun K "_law_tip" "_law_tip" Z3p f fd) (m:mg "_law_tip" = some (.ref f)):Cal P w K mg base 1 "_law_tip" ["_law_plate", "_law_way"] Z2n :=
 .mk F m (F.binds fun _ _ _ _ _ _ us hl=>args2 hl fun _ _=>rfl) (fnT (W:=Z58) F Z5K Z60 (fun cdv A outer s H E hr=>by have nd:=Z5K.nd;unfold Z58;walk_at "D") Z68)
abbrev Z2t:Stmt:=top 63
theorem Z4T:FnScope ["_law_cell", "_law_size", "_law_x", "_law_y"] ["_law_cell", "_law_size"] (defScope Z2t):=by walk_at "s"
theorem Z5V{f:Addr}{fd:FuncData} (F:Fun K "_law_shade" "_law_shade" Z2t f fd) (m:mg "_law_shade" = some (.ref f)) (Z2o:Cal P w K mg base 1 "_law_draw" ["_law_cell", "_law_k", "_law_many"] Z07):Cal P w K mg base 2 "_law_shade" ["_law_cell", "_law_size"] Z2r :=
 .mk F m (F.binds fun _ _ _ _ _ _ us hl=>args2 hl fun _ _=>rfl) (fnT (W:=Z3J) F Z4T Z5C (fun cdv A outer s H E hr=>by have nd:=Z4T.nd;unfold Z3J;walk_at "D") Z5Q)
abbrev Z2U:Stmt:=top 64
theorem Z5t:FnScope ["_law_script", "_law_size", "_law_low_here", "_law_direction", "_law_names_here", "_law_face", "_law_down", "_law_shuts", "_law_dials", "_law_shades", "_law_noon", "_law_at", "_law_k", "_law_cell", "_law_corner", "_law_way", "_law_plate", "_law_x", "_law_y", "_law_wide", "_law_high", "_law_steps"] ["_law_script", "_law_size", "_law_low_here", "_law_direction", "_law_names_here"] (defScope Z2U):=by walk_at "s"
theorem Z65{f:Addr}{fd:FuncData} (F:Fun K "_law_yard" "_law_yard" Z2U f fd) (m:mg "_law_yard" = some (.ref f)) (Z4p:Cal P w K mg base 1 "_law_level" ["_law_low_here", "_law_size", "_law_way"] Z1m) (Z2z:Cal P w K mg base 1 "_law_cell_at" ["_law_script", "_law_k"] Z0Q) (Z2o:Cal P w K mg base 1 "_law_draw" ["_law_cell", "_law_k", "_law_many"] Z07) (Z5G:Cal P w K mg base 1 "_law_tip" ["_law_plate", "_law_way"] Z2n) (Z4r:Cal P w K mg base 2 "_law_shade" ["_law_cell", "_law_size"] Z2r) (z_int:mg "int" = none) (z_enumerate:mg "enumerate" = none):Cal P w K mg base 3 "_law_yard" ["_law_script", "_law_size", "_law_low_here", "_law_direction", "_law_names_here"] Z2y :=
 .mk F m (F.binds fun _ _ _ _ _ _ us hl=>args5 hl fun _ _ _ _ _=>rfl) (fnT (W:=Z59) F Z5t Z5R (fun cdv A outer s H E hr=>have nd:=Z5t.nd;
  (@jsc _ _ _ _ _ (by walk_at "D") (@jsc _ _ _ _ _ (by walk_at "D") (@jsc _ _ _ _ _ (by walk_at "D") (@jsc _ _ _ _ _ (by walk_at "D") (@jsc _ _ _ _ _ (by walk_at "D") (@jsc _ _ _ _ _ (by walk_at "D") (@jsc _ _ _ _ _ (by walk_at "D") (@jsc _ _ _ _ _ (@jfor _ _ _ _ _ _ _ _ PassesOwn.never rfl (by walk_at "D") (by walk_at "D") (@jsc _ _ _ _ _ (by walk_at "D") (@jsc _ _ _ _ _ (by walk_at "D") (@jsc _ _ _ _ _ (by walk_at "D") (@jsc _ _ _ _ _ (by walk_at "D") (@jsc _ _ _ _ _ (@jsif _ _ _ _ _ _ _ _ (by walk_at "D") (@js1 _ _ _ (@japp _ _ _ _ _ _ _ _ _ (pv 7) (by walk_at "D") (by rfl) (by rfl) (by rfl) (by rfl) (by rfl) (by rfl))) (@js1 _ _ _ (@japp _ _ _ _ _ _ _ _ _ (pv 8) (by walk_at "D") (by rfl) (by rfl) (by rfl) (by rfl) (by rfl) (by rfl)))) (@js1 _ _ _ (@jsif _ _ _ _ _ _ _ _ (by walk_at "D") (@jsc _ _ _ _ _ (@japp _ _ _ _ _ _ _ _ _ (pv 9) (by walk_at "D") (by rfl) (by rfl) (by rfl) (by rfl) (by rfl) (by rfl)) (@js1 _ _ _ (@japp _ _ _ _ _ _ _ _ _ (pv 10) (by walk_at "D") (by rfl) (by rfl) (by rfl) (by rfl) (by rfl) (by rfl)))) (@js0 _)))))))) (fun _=>rfl)) (@jsc _ _ _ _ _ (by walk_at "D") (@jfrz _ _ 8 _ (@jfrz _ _ 10 _ (@jfrz _ _ 9 _ (@jfrz _ _ 7 _ (@js1 _ _ _ (by walk_at "D")))))))))))))))) Z61)
abbrev Z3q:Stmt:=top 60
theorem Z5L:FnScope ["_law_top", "_law_bottom", "_law_one", "_law_other"] ["_law_top", "_law_bottom"] (defScope Z3q):=by walk_at "s"
theorem Z6c{f:Addr}{fd:FuncData} (F:Fun K "_law_low" "_law_low" Z3q f fd) (m:mg "_law_low" = some (.ref f)):Cal P w K mg base 1 "_law_low" ["_law_top", "_law_bottom"] Z3o :=
 .mk F m (F.binds fun _ _ _ _ _ _ us hl=>args2 hl fun _ _=>rfl) (fnT (W:=Z5z) F Z5L Z5Z (fun cdv A outer s H E hr=>have nd:=Z5L.nd;
  (@jsc _ _ _ _ _ (by walk_at "D") (@jsc _ _ _ _ _ (by walk_at "D") (@jsc _ _ _ _ _ (@jwhile _ _ _ _ _ _ PassesOwn.never (by walk_at "D") (@js1 _ _ _ (by walk_at "D"))) (@js1 _ _ _ (by walk_at "D")))))) Z67)
abbrev Z35:Stmt:=top 65
theorem Z4d:FnScope ["_law_size", "_law_shades", "_law_lit_here", "_law_known", "_law_i", "_law_j", "_law_k", "_law_one", "_law_wide", "_law_high", "_law_here"] ["_law_size", "_law_shades"] (defScope Z35):=by walk_at "s"
theorem Z6d{f:Addr}{fd:FuncData} (F:Fun K "_law_lit" "_law_lit" Z35 f fd) (m:mg "_law_lit" = some (.ref f)) (Z5I:Cal P w K mg base 1 "_law_low" ["_law_top", "_law_bottom"] Z3o) (z_range:mg "range" = none) (z_int:mg "int" = none) (z_enumerate:mg "enumerate" = none) (z_min:mg "min" = none) (z_max:mg "max" = none) (z_len:mg "len" = none):Cal P w K mg base 2 "_law_lit" ["_law_size", "_law_shades"] Z2J :=
 .mk F m (F.binds fun _ _ _ _ _ _ us hl=>args2 hl fun _ _=>rfl) (fnT (W:=Z5D) F Z4d Z62 (fun cdv A outer s H E hr=>have nd:=Z4d.nd;
  (@jsc _ _ _ _ _ (by walk_at "D") (@jsc _ _ _ _ _ (@jdnew _ _ (3) _ _ _ Z4d.nd rfl (Or.inl rfl) (by rfl) (by walk_at "f")) (@jsc _ _ _ _ _ (@jfor _ _ _ _ _ _ _ _ PassesOwn.never rfl (by walk_at "D") (by walk_at "D") (@js1 _ _ _ (@jfor _ _ _ _ _ _ _ _ PassesOwn.never rfl (by walk_at "D") (by walk_at "D") (@jsc _ _ _ _ _ (@jsetc _ _ _ _ _ _ _ (defScope Z35) (["_law_one"]) (["_law_size" , "_law_shades" , "_law_lit_here" , "_law_known" , "_law_i" , "_law_j" , "_law_k" , "_law_one" , "_law_wide" , "_law_high" , "_law_here"]) ([("_law_i" , 4) , ("_law_j" , 5)]) _ _ _ _ (10) _ _ _ Z4d.nd rfl (Or.inl rfl) rfl rfl rfl (by walk_at "D") rfl rfl (by decide +kernel) (by decide +kernel) (by decide +kernel) (by decide +kernel) (fun cl C s3 H2 ex=>(@jg _ _ (0) _ (show List.Nodup (["_law_one" , "_law_i" , "_law_j"]:List Str) from by decide +kernel) rfl (Or.inl rfl) (by walk_at "f"))) (fun cl C s3 H2 ex=>(@jts1 _ _ _ (by walk_at "D"))) (fun cl C s3 H2 ex=>(by walk_at "D")) (fun _=>rfl) (by rfl) (by walk_at "f")) (@js1 _ _ _ (by walk_at "D"))) (fun _=>rfl))) (fun _=>rfl)) (@jsc _ _ _ _ _ (@jfor _ _ _ _ _ _ _ _ PassesOwn.never rfl (by walk_at "D") (by walk_at "D") (@jsc _ _ _ _ _ (by walk_at "D") (@jsc _ _ _ _ _ (by walk_at "D") (@js1 _ _ _ (@jsif _ _ _ _ _ _ _ _ (by walk_at "D") (@js1 _ _ _ (@jdset _ _ _ _ _ _ (3) _ _ _ (hu_of hr) (pv 3) (by walk_at "D") (@jb _ _ _ _) (by rfl))) (@js0 _))))) (fun _=>rfl)) (@jsc _ _ _ _ _ (@jsif _ _ _ _ _ _ _ _ (@tcmp _ _ _ _ _ _ _ _ c_gt (@jdlen _ _ (3) _ _ _ (pv 3) rfl z_len (by rfl) (star1 rfl) (stars rfl)) (@ji _ _ _ _) (nomark _)) (@js1 _ _ _ (@jret _ _ _ _ (@jn _ _ _))) (@js0 _)) (@js1 _ _ _ (by walk_at "D")))))))) Z69)
abbrev Z1D:Stmt:=top 14
theorem Z3K:FnScope ["thing"] ["thing"] (defScope Z1D):=by walk_at "s"
theorem Z5d{f:Addr}{fd:FuncData} (F:Fun K "is_whole" "is_whole" Z1D f fd) (m:mg "is_whole" = some (.ref f)) (z_isinstance:mg "isinstance" = none) (z_int:mg "int" = none) (z_bool:mg "bool" = none):Cal P w K mg base 1 "is_whole" ["thing"] Z0M :=
 .mk F m (F.binds fun _ _ _ _ _ _ us hl=>args1 hl fun _=>rfl) (fnT (W:=Z2D) F Z3K Z4z (fun cdv A outer s H E hr=>by have nd:=Z3K.nd;unfold Z2D;refine @js1 _ _ _ ?_;walk_at "D") Z4W)
abbrev Z0S:Stmt:=top 45
theorem Z2V:FnScope ["sun", "hour", "entry"] ["sun", "hour"] (defScope Z0S):=by walk_at "s"
theorem Z3Z{f:Addr}{fd:FuncData} (F:Fun K "direction_at" "direction_at" Z0S f fd) (m:mg "direction_at" = some (.ref f)) (Z2c:Cal P w K mg base 1 "is_whole" ["thing"] Z0M) (x_NoHour:FldCls K mg "NoHour" "hour"):CalX P w K mg base 3 "direction_at" ["sun", "hour"] Z0w :=
 .mk F m (F.binds fun _ _ _ _ _ _ us hl=>args2 hl fun _ _=>rfl) (fnX (W:=Z2g) F Z2V Z3H (fun R cdv A outer s H E hr tk=>have nd:=Z2V.nd;
  (@jsc _ _ _ _ _ (@jsif _ _ _ _ _ _ _ _ (by walk_at "D") (@js1 _ _ _ (@jfor _ _ _ _ _ _ _ _ PassesOwn.leaving rfl (by walk_at "D") (by walk_at "D") (@js1 _ _ _ (by walk_at "D")) (fun _=>rfl))) (@js0 _)) (@js1 _ _ _ (@jraiseF _ _ _ _ _ _ _ _ _ (0) x_NoHour tk rfl (hr.mono (by omega)) rfl (by walk_at "D") (by rfl) (star1 rfl) (stars rfl))))) Z3W)
abbrev Z1W:Stmt:=top 48
theorem Z43:FnScope ["yard", "name", "dial"] ["yard", "name"] (defScope Z1W):=by walk_at "s"
theorem Z5u{f:Addr}{fd:FuncData} (F:Fun K "dial_of" "dial_of" Z1W f fd) (m:mg "dial_of" = some (.ref f)) (z_isinstance:mg "isinstance" = none) (z_str:mg "str" = none) (x_NoName:ExcCls K mg "NoName"):CalX P w K mg base 1 "dial_of" ["yard", "name"] Z2b :=
 .mk F m (F.binds fun _ _ _ _ _ _ us hl=>args2 hl fun _ _=>rfl) (fnX (W:=Z3A) F Z43 Z56 (fun R cdv A outer s H E hr tk=>have nd:=Z43.nd;
  (@jsc _ _ _ _ _ (@jsif _ _ _ _ _ _ _ _ (by walk_at "D") (@js1 _ _ _ (@jfor _ _ _ _ _ _ _ _ PassesOwn.leaving rfl (by walk_at "D") (by walk_at "D") (@js1 _ _ _ (by walk_at "D")) (fun _=>rfl))) (@js0 _)) (@js1 _ _ _ (@jraise _ _ _ _ _ _ _ _ _ x_NoName tk rfl rfl (by decide))))) Z5p)
abbrev Z2u:Stmt:=top 46
theorem Z4U:FnScope ["sun", "hour"] ["sun", "hour"] (defScope Z2u):=by walk_at "s"
theorem Z5W{f:Addr}{fd:FuncData} (F:Fun K "is_up" "is_up" Z2u f fd) (m:mg "is_up" = some (.ref f)) (Z0Z:CalX P w K mg base 3 "direction_at" ["sun", "hour"] Z0w):CalX P w K mg base 4 "is_up" ["sun", "hour"] Z2p :=
 .mk F m (F.binds fun _ _ _ _ _ _ us hl=>args2 hl fun _ _=>rfl) (fnX (W:=Z4l) F Z4U Z5y (fun R cdv A outer s H E hr tk=>have nd:=Z4U.nd;
  (@js1 _ _ _ (@jret _ _ _ _ (@jcmp _ _ _ _ _ _ _ _ c_gt (@jix _ _ _ _ _ _ (@jcallX _ _ _ _ _ _ _ _ _ _ _ Z0Z tk (hr.mono (by omega)) rfl (by walk_at "D") (by decide) (star1 rfl) (stars rfl)) (@ji _ _ _ _) (fun _ _=>rfl)) (@ji _ _ _ _) (nomark _))))) Z5M)
abbrev Z1E:Stmt:=top 36
theorem Z3L:FnScope ["one", "other"] ["one", "other"] (defScope Z1E):=by walk_at "s"
theorem Z5e{f:Addr}{fd:FuncData} (F:Fun K "cross_of" "cross_of" Z1E f fd) (m:mg "cross_of" = some (.ref f)):Cal P w K mg base 1 "cross_of" ["one", "other"] Z0P :=
 .mk F m (F.binds fun _ _ _ _ _ _ us hl=>args2 hl fun _ _=>rfl) (fnT (W:=Z2G) F Z3L Z4E (fun cdv A outer s H E hr=>by have nd:=Z3L.nd;unfold Z2G;refine @js1 _ _ _ ?_;walk_at "D") Z50)
abbrev Z1F:Stmt:=top 38
theorem Z3M:FnScope ["plate"] ["plate"] (defScope Z1F):=by walk_at "s"
theorem Z5f{f:Addr}{fd:FuncData} (F:Fun K "front_of" "front_of" Z1F f fd) (m:mg "front_of" = some (.ref f)) (Z2d:Cal P w K mg base 1 "cross_of" ["one", "other"] Z0P):Cal P w K mg base 2 "front_of" ["plate"] Z0z :=
 .mk F m (F.binds fun _ _ _ _ _ _ us hl=>args1 hl fun _=>rfl) (fnT (W:=Z2H) F Z3M Z4F (fun cdv A outer s H E hr=>by have nd:=Z3M.nd;unfold Z2H;refine @js1 _ _ _ ?_;walk_at "D") Z51)
abbrev Z26:Stmt:=top 35
theorem Z4t:FnScope ["one", "other"] ["one", "other"] (defScope Z26):=by walk_at "s"
theorem Z5J{f:Addr}{fd:FuncData} (F:Fun K "dot_of" "dot_of" Z26 f fd) (m:mg "dot_of" = some (.ref f)):Cal P w K mg base 1 "dot_of" ["one", "other"] Z1w :=
 .mk F m (F.binds fun _ _ _ _ _ _ us hl=>args2 hl fun _ _=>rfl) (fnT (W:=Z3n) F Z4t Z5m (fun cdv A outer s H E hr=>by have nd:=Z4t.nd;unfold Z3n;refine @js1 _ _ _ ?_;walk_at "D") Z5x)
abbrev Z0o:Stmt:=top 41
theorem Z2f:FnScope ["plate", "direction"] ["plate", "direction"] (defScope Z0o):=by walk_at "s"
theorem Z3i{f:Addr}{fd:FuncData} (F:Fun K "comes_from_ahead" "comes_from_ahead" Z0o f fd) (m:mg "comes_from_ahead" = some (.ref f)) (Z1z:Cal P w K mg base 2 "front_of" ["plate"] Z0z) (Z2S:Cal P w K mg base 1 "dot_of" ["one", "other"] Z1w):Cal P w K mg base 3 "comes_from_ahead" ["plate", "direction"] Z0e :=
 .mk F m (F.binds fun _ _ _ _ _ _ us hl=>args2 hl fun _ _=>rfl) (fnT (W:=Z17) F Z2f Z39 (fun cdv A outer s H E hr=>by have nd:=Z2f.nd;unfold Z17;refine @js1 _ _ _ ?_;walk_at "D") Z3d)
abbrev Z0t:Stmt:=top 15
theorem Z2k:FnScope ["one", "other", "rest"] ["one", "other"] (defScope Z0t):=by walk_at "s"
theorem Z3t{f:Addr}{fd:FuncData} (F:Fun K "greatest_factor" "greatest_factor" Z0t f fd) (m:mg "greatest_factor" = some (.ref f)) (z_abs:mg "abs" = none):Cal P w K mg base 1 "greatest_factor" ["one", "other"] Z0s :=
 .mk F m (F.binds fun _ _ _ _ _ _ us hl=>args2 hl fun _ _=>rfl) (fnT (W:=Z1P) F Z2k Z3a (fun cdv A outer s H E hr=>have nd:=Z2k.nd;
  (@jsc _ _ _ _ _ (@jwhile _ _ _ _ _ _ PassesOwn.never (by walk_at "D") (@jsc _ _ _ _ _ (by walk_at "D") (@jsc _ _ _ _ _ (by walk_at "D") (@js1 _ _ _ (by walk_at "D"))))) (@js1 _ _ _ (by walk_at "D")))) Z3r)
abbrev Z1G:Stmt:=top 16
theorem Z3N:FnScope ["top", "bottom", "factor"] ["top", "bottom"] (defScope Z1G):=by walk_at "s"
theorem Z5g{f:Addr}{fd:FuncData} (F:Fun K "ratio_of" "ratio_of" Z1G f fd) (m:mg "ratio_of" = some (.ref f)) (Z2c:Cal P w K mg base 1 "is_whole" ["thing"] Z0M) (Z1T:Cal P w K mg base 1 "greatest_factor" ["one", "other"] Z0s):Cal P w K mg base 2 "ratio_of" ["top", "bottom"] Z0i :=
 .mk F m (F.binds fun _ _ _ _ _ _ us hl=>args2 hl fun _ _=>rfl) (fnT (W:=Z3b) F Z3N Z4A (fun cdv A outer s H E hr=>have nd:=Z3N.nd;
  (@jsc _ _ _ _ _ (@jsif _ _ _ _ _ _ _ _ (by walk_at "D") (@js1 _ _ _ (@jnever _ _)) (@js0 _)) (@jsc _ _ _ _ _ (@jsif _ _ _ _ _ _ _ _ (by walk_at "D") (@js1 _ _ _ (@jnever _ _)) (@js0 _)) (@jsc _ _ _ _ _ (by walk_at "D") (@jsc _ _ _ _ _ (by walk_at "D") (@js1 _ _ _ (by walk_at "D"))))))) Z4X)
abbrev Z10:Stmt:=top 19
theorem Z37:FnScope ["one", "other"] ["one", "other"] (defScope Z10):=by walk_at "s"
theorem Z4a{f:Addr}{fd:FuncData} (F:Fun K "ratio_times" "ratio_times" Z10 f fd) (m:mg "ratio_times" = some (.ref f)) (Z11:Cal P w K mg base 2 "ratio_of" ["top", "bottom"] Z0i):Cal P w K mg base 3 "ratio_times" ["one", "other"] Z01 :=
 .mk F m (F.binds fun _ _ _ _ _ _ us hl=>args2 hl fun _ _=>rfl) (fnT (W:=Z1X) F Z37 Z3U (fun cdv A outer s H E hr=>by have nd:=Z37.nd;unfold Z1X;refine @js1 _ _ _ ?_;walk_at "D") Z45)
abbrev Z1r:Stmt:=top 17
theorem Z3u:FnScope ["one", "other"] ["one", "other"] (defScope Z1r):=by walk_at "s"
theorem Z4M{f:Addr}{fd:FuncData} (F:Fun K "ratio_sum" "ratio_sum" Z1r f fd) (m:mg "ratio_sum" = some (.ref f)) (Z11:Cal P w K mg base 2 "ratio_of" ["top", "bottom"] Z0i):Cal P w K mg base 3 "ratio_sum" ["one", "other"] Z03 :=
 .mk F m (F.binds fun _ _ _ _ _ _ us hl=>args2 hl fun _ _=>rfl) (fnT (W:=Z2l) F Z3u Z4e (fun cdv A outer s H E hr=>by have nd:=Z3u.nd;unfold Z2l;refine @js1 _ _ _ ?_;walk_at "D") Z4B)
abbrev Z1s:Stmt:=top 39
theorem Z3v:FnScope ["plate", "place", "axis", "along_side", "along_other"] ["plate", "place", "axis"] (defScope Z1s):=by walk_at "s"
theorem Z4N{f:Addr}{fd:FuncData} (F:Fun K "number_at" "number_at" Z1s f fd) (m:mg "number_at" = some (.ref f)) (Z0f:Cal P w K mg base 3 "ratio_times" ["one", "other"] Z01) (Z09:Cal P w K mg base 3 "ratio_sum" ["one", "other"] Z03):Cal P w K mg base 4 "number_at" ["plate", "place", "axis"] Z1j :=
 .mk F m (F.binds fun _ _ _ _ _ _ us hl=>args3 hl fun _ _ _=>rfl) (fnT (W:=Z2m) F Z3v Z4j (fun cdv A outer s H E hr=>by have nd:=Z3v.nd;unfold Z2m;walk_at "D") Z4H)
abbrev Z1g:Stmt:=top 40
theorem Z3O:FnScope ["plate", "place"] ["plate", "place"] (defScope Z1g):=by walk_at "s"
theorem Z5h{f:Addr}{fd:FuncData} (F:Fun K "point_of" "point_of" Z1g f fd) (m:mg "point_of" = some (.ref f)) (Z33:Cal P w K mg base 4 "number_at" ["plate", "place", "axis"] Z1j) (z_range:mg "range" = none) (z_tuple:mg "tuple" = none):Cal P w K mg base 5 "point_of" ["plate", "place"] Z1e :=
 .mk F m (F.binds fun _ _ _ _ _ _ us hl=>args2 hl fun _ _=>rfl) (fnT (W:=Z3c) F Z3O Z4I (fun cdv A outer s H E hr=>have nd:=Z3O.nd;
  (@js1 _ _ _ (@jret _ _ _ _ (@jty _ _ _ _ _ _ _ _ _ ty_tuple rfl z_tuple boot_tuple (@ja _ _ _ _ _ (@jcomp _ _ _ _ _ _ _ (defScope Z1g) (["axis"]) (["plate" , "place"]) ([("plate" , 0) , ("place" , 1)]) _ _ _ _ rfl rfl rfl (by walk_at "D") rfl rfl (by decide +kernel) (by decide +kernel) (by decide +kernel) (by decide +kernel) (fun cl C s3 H2 ex=>(@jg _ _ (0) _ (show List.Nodup (["axis" , "plate" , "place"]:List Str) from by decide +kernel) rfl (Or.inl rfl) (by walk_at "f"))) (fun cl C s3 H2 ex=>(@jts0 _)) (fun cl C s3 H2 ex=>(by walk_at "D")) (fun _=>rfl)) (@ja0 _) (star1 rfl)) (by decide) (by decide) (star1 rfl) (stars rfl))))) Z52)
abbrev Z1b:Stmt:=top 18
theorem Z3j:FnScope ["one", "other"] ["one", "other"] (defScope Z1b):=by walk_at "s"
theorem Z4u{f:Addr}{fd:FuncData} (F:Fun K "ratio_less" "ratio_less" Z1b f fd) (m:mg "ratio_less" = some (.ref f)) (Z11:Cal P w K mg base 2 "ratio_of" ["top", "bottom"] Z0i):Cal P w K mg base 3 "ratio_less" ["one", "other"] Z00 :=
 .mk F m (F.binds fun _ _ _ _ _ _ us hl=>args2 hl fun _ _=>rfl) (fnT (W:=Z27) F Z3j Z44 (fun cdv A outer s H E hr=>by have nd:=Z3j.nd;unfold Z27;refine @js1 _ _ _ ?_;walk_at "D") Z4f)
abbrev Z0W:Stmt:=top 23
theorem Z3k:FnScope ["point", "triple"] ["point", "triple"] (defScope Z0W):=by walk_at "s"
theorem Z4v{f:Addr}{fd:FuncData} (F:Fun K "point_less" "point_less" Z0W f fd) (m:mg "point_less" = some (.ref f)) (Z02:Cal P w K mg base 3 "ratio_less" ["one", "other"] Z00) (z_range:mg "range" = none) (z_tuple:mg "tuple" = none):Cal P w K mg base 4 "point_less" ["point", "triple"] Z0F :=
 .mk F m (F.binds fun _ _ _ _ _ _ us hl=>args2 hl fun _ _=>rfl) (fnT (W:=Z2N) F Z3k Z46 (fun cdv A outer s H E hr=>have nd:=Z3k.nd;
  (@js1 _ _ _ (@jret _ _ _ _ (@jty _ _ _ _ _ _ _ _ _ ty_tuple rfl z_tuple boot_tuple (@ja _ _ _ _ _ (@jcomp _ _ _ _ _ _ _ (defScope Z0W) (["axis"]) (["point" , "triple"]) ([("point" , 0) , ("triple" , 1)]) _ _ _ _ rfl rfl rfl (by walk_at "D") rfl rfl (by decide +kernel) (by decide +kernel) (by decide +kernel) (by decide +kernel) (fun cl C s3 H2 ex=>(@jg _ _ (0) _ (show List.Nodup (["axis" , "point" , "triple"]:List Str) from by decide +kernel) rfl (Or.inl rfl) (by walk_at "f"))) (fun cl C s3 H2 ex=>(@jts0 _)) (fun cl C s3 H2 ex=>(by walk_at "D")) (fun _=>rfl)) (@ja0 _) (star1 rfl)) (by decide) (by decide) (star1 rfl) (stars rfl))))) Z4g)
abbrev Z16:Stmt:=top 24
theorem Z2Q:FnScope ["point", "triple", "products"] ["point", "triple"] (defScope Z16):=by walk_at "s"
theorem Z4O{f:Addr}{fd:FuncData} (F:Fun K "point_dot" "point_dot" Z16 f fd) (m:mg "point_dot" = some (.ref f)) (Z0f:Cal P w K mg base 3 "ratio_times" ["one", "other"] Z01) (Z09:Cal P w K mg base 3 "ratio_sum" ["one", "other"] Z03) (z_range:mg "range" = none):Cal P w K mg base 4 "point_dot" ["point", "triple"] Z0A :=
 .mk F m (F.binds fun _ _ _ _ _ _ us hl=>args2 hl fun _ _=>rfl) (fnT (W:=Z2Z) F Z2Q Z4h (fun cdv A outer s H E hr=>have nd:=Z2Q.nd;
  (@jsc _ _ _ _ _ (@jsetc _ _ _ _ _ _ _ (defScope Z16) (["axis"]) (["point" , "triple" , "products"]) ([("point" , 0) , ("triple" , 1)]) _ _ _ _ (2) _ _ _ Z2Q.nd rfl (Or.inl rfl) rfl rfl rfl (by walk_at "D") rfl rfl (by decide +kernel) (by decide +kernel) (by decide +kernel) (by decide +kernel) (fun cl C s3 H2 ex=>(@jg _ _ (0) _ (show List.Nodup (["axis" , "point" , "triple"]:List Str) from by decide +kernel) rfl (Or.inl rfl) (by walk_at "f"))) (fun cl C s3 H2 ex=>(@jts0 _)) (fun cl C s3 H2 ex=>(by walk_at "D")) (fun _=>rfl) (by rfl) (by walk_at "f")) (@js1 _ _ _ (by walk_at "D")))) Z4G)
abbrev Z1H:Stmt:=top 20
theorem Z3P:FnScope ["one", "other"] ["one", "other"] (defScope Z1H):=by walk_at "s"
theorem Z5i{f:Addr}{fd:FuncData} (F:Fun K "ratio_by" "ratio_by" Z1H f fd) (m:mg "ratio_by" = some (.ref f)) (Z11:Cal P w K mg base 2 "ratio_of" ["top", "bottom"] Z0i):Cal P w K mg base 3 "ratio_by" ["one", "other"] Z0N :=
 .mk F m (F.binds fun _ _ _ _ _ _ us hl=>args2 hl fun _ _=>rfl) (fnT (W:=Z2E) F Z3P Z4C (fun cdv A outer s H E hr=>by have nd:=Z3P.nd;unfold Z2E;refine @js1 _ _ _ ?_;walk_at "D") Z4Y)
abbrev Z1c:Stmt:=top 43
theorem Z3l:FnScope ["plate", "point", "direction", "across", "beyond", "along_side", "along_other"] ["plate", "point", "direction"] (defScope Z1c):=by walk_at "s"
theorem Z4w{f:Addr}{fd:FuncData} (F:Fun K "meeting_of" "meeting_of" Z1c f fd) (m:mg "meeting_of" = some (.ref f)) (Z1z:Cal P w K mg base 2 "front_of" ["plate"] Z0z) (Z2S:Cal P w K mg base 1 "dot_of" ["one", "other"] Z1w) (Z1N:Cal P w K mg base 4 "point_less" ["point", "triple"] Z0F) (Z2d:Cal P w K mg base 1 "cross_of" ["one", "other"] Z0P) (Z1Y:Cal P w K mg base 4 "point_dot" ["point", "triple"] Z0A) (Z2e:Cal P w K mg base 3 "ratio_by" ["one", "other"] Z0N):Cal P w K mg base 5 "meeting_of" ["plate", "point", "direction"] Z1a :=
 .mk F m (F.binds fun _ _ _ _ _ _ us hl=>args3 hl fun _ _ _=>rfl) (fnT (W:=Z28) F Z3l Z47 (fun cdv A outer s H E hr=>by have nd:=Z3l.nd;unfold Z28;walk_at "D") Z4i)
abbrev Z0r:Stmt:=top 29
theorem Z2K:FnScope ["one", "other", "way"] ["one", "other", "way"] (defScope Z0r):=by walk_at "s"
theorem Z3Q{f:Addr}{fd:FuncData} (F:Fun K "place_between" "place_between" Z0r f fd) (m:mg "place_between" = some (.ref f)) (Z02:Cal P w K mg base 3 "ratio_less" ["one", "other"] Z00) (Z0f:Cal P w K mg base 3 "ratio_times" ["one", "other"] Z01) (Z09:Cal P w K mg base 3 "ratio_sum" ["one", "other"] Z03) (z_range:mg "range" = none) (z_tuple:mg "tuple" = none):Cal P w K mg base 4 "place_between" ["one", "other", "way"] Z0H :=
 .mk F m (F.binds fun _ _ _ _ _ _ us hl=>args3 hl fun _ _ _=>rfl) (fnT (W:=Z20) F Z2K Z3x (fun cdv A outer s H E hr=>have nd:=Z2K.nd;
  (@js1 _ _ _ (@jret _ _ _ _ (@jty _ _ _ _ _ _ _ _ _ ty_tuple rfl z_tuple boot_tuple (@ja _ _ _ _ _ (@jcomp _ _ _ _ _ _ _ (defScope Z0r) (["axis"]) (["one" , "other" , "way"]) ([("one" , 0) , ("way" , 2) , ("other" , 1)]) _ _ _ _ rfl rfl rfl (by walk_at "D") rfl rfl (by decide +kernel) (by decide +kernel) (by decide +kernel) (by decide +kernel) (fun cl C s3 H2 ex=>(@jg _ _ (0) _ (show List.Nodup (["axis" , "one" , "way" , "other"]:List Str) from by decide +kernel) rfl (Or.inl rfl) (by walk_at "f"))) (fun cl C s3 H2 ex=>(@jts0 _)) (fun cl C s3 H2 ex=>(by walk_at "D")) (fun _=>rfl)) (@ja0 _) (star1 rfl)) (by decide) (by decide) (star1 rfl) (stars rfl))))) Z3D)
abbrev Z0I:Stmt:=top 30
theorem Z2L:FnScope ["corners", "heights", "kept", "number", "corner", "here", "ahead", "way"] ["corners", "heights"] (defScope Z0I):=by walk_at "s"
theorem Z3R{f:Addr}{fd:FuncData} (F:Fun K "cut_at_nought" "cut_at_nought" Z0I f fd) (m:mg "cut_at_nought" = some (.ref f)) (Z02:Cal P w K mg base 3 "ratio_less" ["one", "other"] Z00) (Z2e:Cal P w K mg base 3 "ratio_by" ["one", "other"] Z0N) (Z24:Cal P w K mg base 4 "place_between" ["one", "other", "way"] Z0H) (z_enumerate:mg "enumerate" = none):Cal P w K mg base 5 "cut_at_nought" ["corners", "heights"] Z0q :=
 .mk F m (F.binds fun _ _ _ _ _ _ us hl=>args2 hl fun _ _=>rfl) (fnT (W:=Z21) F Z2L Z3y (fun cdv A outer s H E hr=>have nd:=Z2L.nd;
  (@jsc _ _ _ _ _ (by walk_at "D") (@jsc _ _ _ _ _ (@jfor _ _ _ _ _ _ _ _ PassesOwn.never rfl (by walk_at "D") (by walk_at "D") (@jsc _ _ _ _ _ (by walk_at "D") (@jsc _ _ _ _ _ (by walk_at "D") (@jsc _ _ _ _ _ (@jsif _ _ _ _ _ _ _ _ (by walk_at "D") (@jsc _ _ _ _ _ (by walk_at "D") (@js1 _ _ _ (@japp _ _ _ _ _ _ _ _ _ (pv 2) (by walk_at "D") (by rfl) (by rfl) (by rfl) (by rfl) (by rfl) (by rfl)))) (@js0 _)) (@js1 _ _ _ (@jsif _ _ _ _ _ _ _ _ (by walk_at "D") (@js1 _ _ _ (@japp _ _ _ _ _ _ _ _ _ (pv 2) (by walk_at "D") (by rfl) (by rfl) (by rfl) (by rfl) (by rfl) (by rfl))) (@js0 _)))))) (fun _=>rfl)) (@jfrz _ _ 2 _ (@js1 _ _ _ (by walk_at "D")))))) Z3E)
abbrev Z1I:Stmt:=top 28
theorem Z3S:FnScope ["part", "twice", "number", "corner", "ahead", "turn"] ["part"] (defScope Z1I):=by walk_at "s"
theorem Z5j{f:Addr}{fd:FuncData} (F:Fun K "share_of" "share_of" Z1I f fd) (m:mg "share_of" = some (.ref f)) (Z0f:Cal P w K mg base 3 "ratio_times" ["one", "other"] Z01) (Z02:Cal P w K mg base 3 "ratio_less" ["one", "other"] Z00) (Z09:Cal P w K mg base 3 "ratio_sum" ["one", "other"] Z03) (z_enumerate:mg "enumerate" = none):Cal P w K mg base 4 "share_of" ["part"] Z0B :=
 .mk F m (F.binds fun _ _ _ _ _ _ us hl=>args1 hl fun _=>rfl) (fnT (W:=Z2I) F Z3S Z4J (fun cdv A outer s H E hr=>by have nd:=Z3S.nd;unfold Z2I;walk_at "D") Z53)
abbrev Z1d:Stmt:=top 25
theorem Z2M:FnScope ["one", "other", "third", "along", "beyond"] ["one", "other", "third"] (defScope Z1d):=by walk_at "s"
theorem Z5v{f:Addr}{fd:FuncData} (F:Fun K "turn_of" "turn_of" Z1d f fd) (m:mg "turn_of" = some (.ref f)) (Z02:Cal P w K mg base 3 "ratio_less" ["one", "other"] Z00) (Z0f:Cal P w K mg base 3 "ratio_times" ["one", "other"] Z01) (z_range:mg "range" = none):Cal P w K mg base 4 "turn_of" ["one", "other", "third"] Z05 :=
 .mk F m (F.binds fun _ _ _ _ _ _ us hl=>args3 hl fun _ _ _=>rfl) (fnT (W:=Z3w) F Z2M Z54 (fun cdv A outer s H E hr=>have nd:=Z2M.nd;
  (@jsc _ _ _ _ _ (@jsetc _ _ _ _ _ _ _ (defScope Z1d) (["axis"]) (["one" , "other" , "third" , "along" , "beyond"]) ([("other" , 1) , ("one" , 0)]) _ _ _ _ (3) _ _ _ Z2M.nd rfl (Or.inl rfl) rfl rfl rfl (by walk_at "D") rfl rfl (by decide +kernel) (by decide +kernel) (by decide +kernel) (by decide +kernel) (fun cl C s3 H2 ex=>(@jg _ _ (0) _ (show List.Nodup (["axis" , "other" , "one"]:List Str) from by decide +kernel) rfl (Or.inl rfl) (by walk_at "f"))) (fun cl C s3 H2 ex=>(@jts0 _)) (fun cl C s3 H2 ex=>(by walk_at "D")) (fun _=>rfl) (by rfl) (by walk_at "f")) (@jsc _ _ _ _ _ (@jsetc _ _ _ _ _ _ _ (defScope Z1d) (["axis"]) (["one" , "other" , "third" , "along" , "beyond"]) ([("third" , 2) , ("one" , 0)]) _ _ _ _ (4) _ _ _ Z2M.nd rfl (Or.inl rfl) rfl rfl rfl (by walk_at "D") rfl rfl (by decide +kernel) (by decide +kernel) (by decide +kernel) (by decide +kernel) (fun cl C s3 H2 ex=>(@jg _ _ (0) _ (show List.Nodup (["axis" , "third" , "one"]:List Str) from by decide +kernel) rfl (Or.inl rfl) (by walk_at "f"))) (fun cl C s3 H2 ex=>(@jts0 _)) (fun cl C s3 H2 ex=>(by walk_at "D")) (fun _=>rfl) (by rfl) (by walk_at "f")) (@js1 _ _ _ (by walk_at "D"))))) Z5n)
abbrev Z1J:Stmt:=top 21
theorem Z3T:FnScope ["one", "other"] ["one", "other"] (defScope Z1J):=by walk_at "s"
theorem Z5k{f:Addr}{fd:FuncData} (F:Fun K "is_under" "is_under" Z1J f fd) (m:mg "is_under" = some (.ref f)):Cal P w K mg base 1 "is_under" ["one", "other"] Z0O :=
 .mk F m (F.binds fun _ _ _ _ _ _ us hl=>args2 hl fun _ _=>rfl) (fnT (W:=Z2F) F Z3T Z4D (fun cdv A outer s H E hr=>by have nd:=Z3T.nd;unfold Z2F;refine @js1 _ _ _ ?_;walk_at "D") Z4Z)
abbrev Z0y:Stmt:=top 26
theorem Z2B:FnScope ["one", "other"] ["one", "other"] (defScope Z0y):=by walk_at "s"
theorem Z3B{f:Addr}{fd:FuncData} (F:Fun K "is_lower_place" "is_lower_place" Z0y f fd) (m:mg "is_lower_place" = some (.ref f)) (Z3g:Cal P w K mg base 1 "is_under" ["one", "other"] Z0O):Cal P w K mg base 2 "is_lower_place" ["one", "other"] Z0v :=
 .mk F m (F.binds fun _ _ _ _ _ _ us hl=>args2 hl fun _ _=>rfl) (fnT (W:=Z1v) F Z2B Z3s (fun cdv A outer s H E hr=>by have nd:=Z2B.nd;unfold Z1v;walk_at "D") Z3z)
abbrev Z0T:Stmt:=top 31
theorem Z2W:FnScope ["corners", "first", "number", "corner"] ["corners"] (defScope Z0T):=by walk_at "s"
theorem Z40{f:Addr}{fd:FuncData} (F:Fun K "begun_lowest" "begun_lowest" Z0T f fd) (m:mg "begun_lowest" = some (.ref f)) (Z1Z:Cal P w K mg base 2 "is_lower_place" ["one", "other"] Z0v) (z_enumerate:mg "enumerate" = none):Cal P w K mg base 3 "begun_lowest" ["corners"] Z0l :=
 .mk F m (F.binds fun _ _ _ _ _ _ us hl=>args1 hl fun _=>rfl) (fnT (W:=Z1O) F Z2W Z3F (fun cdv A outer s H E hr=>by have nd:=Z2W.nd;unfold Z1O;walk_at "D") Z3V)
abbrev Z0X:Stmt:=top 32
theorem Z2C:FnScope ["corners", "unlike", "left", "number", "corner", "behind"] ["corners"] (defScope Z0X):=by walk_at "s"
theorem Z4x{f:Addr}{fd:FuncData} (F:Fun K "part_round" "part_round" Z0X f fd) (m:mg "part_round" = some (.ref f)) (Z2A:Cal P w K mg base 4 "turn_of" ["one", "other", "third"] Z05) (Z2i:Cal P w K mg base 3 "begun_lowest" ["corners"] Z0l) (z_enumerate:mg "enumerate" = none) (z_len:mg "len" = none):Cal P w K mg base 5 "part_round" ["corners"] Z0G :=
 .mk F m (F.binds fun _ _ _ _ _ _ us hl=>args1 hl fun _=>rfl) (fnT (W:=Z1M) F Z2C Z48 (fun cdv A outer s H E hr=>have nd:=Z2C.nd;
  (@jsc _ _ _ _ _ (@jsetc _ _ _ _ _ _ _ (defScope Z0X) (["number" , "corner"]) (["corners" , "unlike" , "left" , "number" , "corner" , "behind"]) ([("corners" , 0)]) _ _ _ _ (1) _ _ _ Z2C.nd rfl (Or.inl rfl) rfl rfl rfl (by walk_at "D") rfl rfl (by decide +kernel) (by decide +kernel) (by decide +kernel) (by decide +kernel) (fun cl C s3 H2 ex=>(@jgt _ _ _ _ _ _ rfl (@jgsc _ _ _ _ _ (@jg _ _ (0) _ (show List.Nodup (["number" , "corner" , "corners"]:List Str) from by decide +kernel) rfl (Or.inl rfl) (by walk_at "f")) (@jgsc _ _ _ _ _ (@jg _ _ (1) _ (show List.Nodup (["number" , "corner" , "corners"]:List Str) from by decide +kernel) rfl (Or.inl rfl) (by walk_at "f")) (@jgs0 _) (by rfl)) (by rfl)) (by rfl) (by rfl))) (fun cl C s3 H2 ex=>(@jts1 _ _ _ (by walk_at "D"))) (fun cl C s3 H2 ex=>(by walk_at "D")) (fun _=>rfl) (by rfl) (by walk_at "f")) (@jsc _ _ _ _ _ (by walk_at "D") (@jsc _ _ _ _ _ (@jfor _ _ _ _ _ _ _ _ PassesOwn.never rfl (by walk_at "D") (by walk_at "D") (@jsc _ _ _ _ _ (by walk_at "D") (@js1 _ _ _ (@jsif _ _ _ _ _ _ _ _ (by walk_at "D") (@js1 _ _ _ (@japp _ _ _ _ _ _ _ _ _ (pv 2) (by walk_at "D") (by rfl) (by rfl) (by rfl) (by rfl) (by rfl) (by rfl))) (@js0 _)))) (fun _=>rfl)) (@jfrz _ _ 2 _ (@js1 _ _ _ (by walk_at "D"))))))) Z4k)
abbrev Z1B:Stmt:=top 33
theorem Z3m:FnScope ["one", "other", "corners", "number", "corner", "edge"] ["one", "other"] (defScope Z1B):=by walk_at "s"
theorem Z5w{f:Addr}{fd:FuncData} (F:Fun K "both_of" "both_of" Z1B f fd) (m:mg "both_of" = some (.ref f)) (Z2A:Cal P w K mg base 4 "turn_of" ["one", "other", "third"] Z05) (Z0U:Cal P w K mg base 5 "cut_at_nought" ["corners", "heights"] Z0q) (Z2O:Cal P w K mg base 5 "part_round" ["corners"] Z0G) (z_enumerate:mg "enumerate" = none):Cal P w K mg base 6 "both_of" ["one", "other"] Z0m :=
 .mk F m (F.binds fun _ _ _ _ _ _ us hl=>args2 hl fun _ _=>rfl) (fnT (W:=Z2w) F Z3m Z55 (fun cdv A outer s H E hr=>have nd:=Z3m.nd;
  (@jsc _ _ _ _ _ (by walk_at "D") (@jsc _ _ _ _ _ (by walk_at "D") (@jsc _ _ _ _ _ (@jfor _ _ _ _ _ _ _ _ PassesOwn.never rfl (by walk_at "D") (by walk_at "D") (@jsc _ _ _ _ _ (by walk_at "D") (@js1 _ _ _ (@jset _ _ _ _ (2) _ _ Z3m.nd rfl (Or.inl rfl) (@jcallC _ _ _ _ _ _ _ _ _ _ Z0U (hr.mono (by omega)) rfl (@ja _ _ _ _ _ (by walk_at "D") (@ja _ _ _ _ _ (@jcomp _ _ _ _ _ _ _ (defScope Z1B) (["place"]) (["one" , "other" , "corners" , "number" , "corner" , "edge"]) ([("edge" , 5) , ("corner" , 4)]) _ _ _ _ rfl rfl rfl (by walk_at "D") rfl rfl (by decide +kernel) (by decide +kernel) (by decide +kernel) (by decide +kernel) (fun cl C s3 H2 ex=>(@jg _ _ (0) _ (show List.Nodup (["place" , "edge" , "corner"]:List Str) from by decide +kernel) rfl (Or.inl rfl) (by walk_at "f"))) (fun cl C s3 H2 ex=>(@jts0 _)) (fun cl C s3 H2 ex=>(by walk_at "D")) (fun _=>rfl)) (@ja0 _) (star1 rfl)) (star1 rfl)) (by decide) (star1 rfl) (stars rfl)) (by rfl) (by walk_at "f")))) (fun _=>rfl)) (@js1 _ _ _ (by walk_at "D")))))) Z5o)
abbrev Z0p:Stmt:=top 52
theorem Z1t:FnScope ["plate", "other", "direction", "points", "heights", "thrown"] ["plate", "other", "direction"] (defScope Z0p):=by walk_at "s"
theorem Z4P{f:Addr}{fd:FuncData} (F:Fun K "shaded_by" "shaded_by" Z0p f fd) (m:mg "shaded_by" = some (.ref f)) (Z3h:Cal P w K mg base 5 "point_of" ["plate", "place"] Z1e) (Z1N:Cal P w K mg base 4 "point_less" ["point", "triple"] Z0F) (Z1z:Cal P w K mg base 2 "front_of" ["plate"] Z0z) (Z1Y:Cal P w K mg base 4 "point_dot" ["point", "triple"] Z0A) (Z2P:Cal P w K mg base 5 "meeting_of" ["plate", "point", "direction"] Z1a) (Z0U:Cal P w K mg base 5 "cut_at_nought" ["corners", "heights"] Z0q) (Z12:Cal P w K mg base 4 "share_of" ["part"] Z0B) (Z1f:Cal P w K mg base 6 "both_of" ["one", "other"] Z0m) (z_all:mg "all" = none) (z_reversed:mg "reversed" = none) (z_list:mg "list" = none) (g_WHOLE:GlC K mg "WHOLE" c_WHOLE):Cal P w K mg base 7 "shaded_by" ["plate", "other", "direction"] Z14 :=
 .mk F m (F.binds fun _ _ _ _ _ _ us hl=>args3 hl fun _ _ _=>rfl) (fnT (W:=Z30) F Z1t Z4m (fun cdv A outer s H E hr=>have nd:=Z1t.nd;
  (@jsc _ _ _ _ _ (@jsetc _ _ _ _ _ _ _ (defScope Z0p) (["place"]) (["plate" , "other" , "direction" , "points" , "heights" , "thrown"]) ([("other" , 1)]) _ _ _ _ (3) _ _ _ Z1t.nd rfl (Or.inl rfl) rfl rfl rfl (by walk_at "D") rfl rfl (by decide +kernel) (by decide +kernel) (by decide +kernel) (by decide +kernel) (fun cl C s3 H2 ex=>(@jg _ _ (0) _ (show List.Nodup (["place" , "other"]:List Str) from by decide +kernel) rfl (Or.inl rfl) (by walk_at "f"))) (fun cl C s3 H2 ex=>(@jts0 _)) (fun cl C s3 H2 ex=>(by walk_at "D")) (fun _=>rfl) (by rfl) (by walk_at "f")) (@jsc _ _ _ _ _ (@jsetc _ _ _ _ _ _ _ (defScope Z0p) (["point"]) (["plate" , "other" , "direction" , "points" , "heights" , "thrown"]) ([("plate" , 0)]) _ _ _ _ (4) _ _ _ Z1t.nd rfl (Or.inl rfl) rfl rfl rfl (by walk_at "D") rfl rfl (by decide +kernel) (by decide +kernel) (by decide +kernel) (by decide +kernel) (fun cl C s3 H2 ex=>(@jg _ _ (0) _ (show List.Nodup (["point" , "plate"]:List Str) from by decide +kernel) rfl (Or.inl rfl) (by walk_at "f"))) (fun cl C s3 H2 ex=>(@jts0 _)) (fun cl C s3 H2 ex=>(by walk_at "D")) (fun _=>rfl) (by rfl) (by walk_at "f")) (@jsc _ _ _ _ _ (@jsif _ _ _ _ _ _ _ _ (@tval _ _ _ (@jblt _ _ _ _ _ _ _ _ _ (bl_all rfl) rfl z_all boot_all (@ja _ _ _ _ _ (@jcomp _ _ _ _ _ _ _ (defScope Z0p) (["height"]) (["plate" , "other" , "direction" , "points" , "heights" , "thrown"]) ([]) _ _ _ _ rfl rfl rfl (by walk_at "D") rfl rfl (by decide +kernel) (by decide +kernel) (by decide +kernel) (by decide +kernel) (fun cl C s3 H2 ex=>(@jg _ _ (0) _ (show List.Nodup (["height"]:List Str) from by decide +kernel) rfl (Or.inl rfl) (by walk_at "f"))) (fun cl C s3 H2 ex=>(@jts0 _)) (fun cl C s3 H2 ex=>(by walk_at "D")) (fun _=>rfl)) (@ja0 _) (star1 rfl)) (by decide) (by decide) (star1 rfl) (stars rfl)) (fun _=>rfl)) (@js1 _ _ _ (by walk_at "D")) (@js0 _)) (@jsc _ _ _ _ _ (@jset _ _ _ _ (5) _ _ Z1t.nd rfl (Or.inl rfl) (@jcallC _ _ _ _ _ _ _ _ _ _ Z0U (hr.mono (by omega)) rfl (@ja _ _ _ _ _ (@jcomp _ _ _ _ _ _ _ (defScope Z0p) (["point"]) (["plate" , "other" , "direction" , "points" , "heights" , "thrown"]) ([("plate" , 0) , ("direction" , 2)]) _ _ _ _ rfl rfl rfl (by walk_at "D") rfl rfl (by decide +kernel) (by decide +kernel) (by decide +kernel) (by decide +kernel) (fun cl C s3 H2 ex=>(@jg _ _ (0) _ (show List.Nodup (["point" , "plate" , "direction"]:List Str) from by decide +kernel) rfl (Or.inl rfl) (by walk_at "f"))) (fun cl C s3 H2 ex=>(@jts0 _)) (fun cl C s3 H2 ex=>(by walk_at "D")) (fun _=>rfl)) (by walk_at "D") (star1 rfl)) (by decide) (star1 rfl) (stars rfl)) (by rfl) (by walk_at "f")) (@jsc _ _ _ _ _ (@jsif _ _ _ _ _ _ _ _ (by walk_at "D") (@js1 _ _ _ (@jset _ _ _ _ (5) _ _ Z1t.nd rfl (Or.inl rfl) (@jlrev _ _ _ _ _ _ _ rfl rfl z_reversed rfl z_list (by walk_at "D") (star1 rfl) (stars rfl) (star1 rfl) (stars rfl)) (by rfl) (by walk_at "f"))) (@js0 _)) (@js1 _ _ _ (by walk_at "D")))))))) Z4K)
abbrev Z0g:Stmt:=top 54
theorem Z1K:FnScope ["yard", "dial", "direction", "others", "parts"] ["yard", "dial", "direction"] (defScope Z0g):=by walk_at "s"
theorem Z41{f:Addr}{fd:FuncData} (F:Fun K "parts_shaded" "parts_shaded" Z0g f fd) (m:mg "parts_shaded" = some (.ref f)) (Z34:Cal P w K mg base 7 "shaded_by" ["plate", "other", "direction"] Z14):Cal P w K mg base 8 "parts_shaded" ["yard", "dial", "direction"] Z0x :=
 .mk F m (F.binds fun _ _ _ _ _ _ us hl=>args3 hl fun _ _ _=>rfl) (fnT (W:=Z2h) F Z1K Z3I (fun cdv A outer s H E hr=>have nd:=Z1K.nd;
  (@jsc _ _ _ _ _ (@jsetc _ _ _ _ _ _ _ (defScope Z0g) (["thing"]) (["yard" , "dial" , "direction" , "others" , "parts"]) ([("dial" , 1)]) _ _ _ _ (3) _ _ _ Z1K.nd rfl (Or.inl rfl) rfl rfl rfl (by walk_at "D") rfl rfl (by decide +kernel) (by decide +kernel) (by decide +kernel) (by decide +kernel) (fun cl C s3 H2 ex=>(@jg _ _ (0) _ (show List.Nodup (["thing" , "dial"]:List Str) from by decide +kernel) rfl (Or.inl rfl) (by walk_at "f"))) (fun cl C s3 H2 ex=>(@jts1 _ _ _ (by walk_at "D"))) (fun cl C s3 H2 ex=>(by walk_at "D")) (fun _=>rfl) (by rfl) (by walk_at "f")) (@jsc _ _ _ _ _ (@jsetc _ _ _ _ _ _ _ (defScope Z0g) (["thing"]) (["yard" , "dial" , "direction" , "others" , "parts"]) ([("direction" , 2) , ("dial" , 1)]) _ _ _ _ (4) _ _ _ Z1K.nd rfl (Or.inl rfl) rfl rfl rfl (by walk_at "D") rfl rfl (by decide +kernel) (by decide +kernel) (by decide +kernel) (by decide +kernel) (fun cl C s3 H2 ex=>(@jg _ _ (0) _ (show List.Nodup (["thing" , "direction" , "dial"]:List Str) from by decide +kernel) rfl (Or.inl rfl) (by walk_at "f"))) (fun cl C s3 H2 ex=>(@jts0 _)) (fun cl C s3 H2 ex=>(by walk_at "D")) (fun _=>rfl) (by rfl) (by walk_at "f")) (@js1 _ _ _ (@jret _ _ _ _ (@jcomp _ _ _ _ _ _ _ (defScope Z0g) (["part"]) (["yard" , "dial" , "direction" , "others" , "parts"]) ([]) _ _ _ _ rfl rfl rfl (by walk_at "D") rfl rfl (by decide +kernel) (by decide +kernel) (by decide +kernel) (by decide +kernel) (fun cl C s3 H2 ex=>(@jg _ _ (0) _ (show List.Nodup (["part"]:List Str) from by decide +kernel) rfl (Or.inl rfl) (by walk_at "f"))) (fun cl C s3 H2 ex=>(@jts1 _ _ _ (by walk_at "D"))) (fun cl C s3 H2 ex=>(by walk_at "D")) (fun _=>rfl))))))) Z3X)
abbrev Z0u:Stmt:=top 53
theorem Z0K:FnScope ["parts", "joint", "number", "part", "again"] ["parts"] (defScope Z0u):=by walk_at "s"
theorem Z38{f:Addr}{fd:FuncData} (F:Fun K "joint_share" "joint_share" Z0u f fd) (m:mg "joint_share" = some (.ref f)) (Z1f:Cal P w K mg base 6 "both_of" ["one", "other"] Z0m) (Z12:Cal P w K mg base 4 "share_of" ["part"] Z0B) (Z02:Cal P w K mg base 3 "ratio_less" ["one", "other"] Z00) (Z09:Cal P w K mg base 3 "ratio_sum" ["one", "other"] Z03) (z_enumerate:mg "enumerate" = none):∀n,Cal P w K mg base (n + 7) "joint_share" ["parts"] (Z0a n)
 | 0=>.mk F m (F.binds fun _ _ _ _ _ _ us hl=>args1 hl fun _=>rfl) (fnTno (k:=6) F Z0K len0_P_joint_share no_P_joint_share)
 | n + 1=>by
  have Z1A:=Z38 F m Z1f Z12 Z02 Z09 z_enumerate n
  exact .mk F m (F.binds fun _ _ _ _ _ _ us hl=>args1 hl fun _=>rfl) (fnT (k:=n + 7) (W:=Z2x (Z0a n)) F Z0K (Z3G (n + 1)) (fun cdv A outer s H E hr =>
  (@jsc _ _ _ _ _ (@jset _ _ _ _ (1) _ _ Z0K.nd rfl (Or.inl rfl) (@jtup _ _ _ _ _ (@ja _ _ _ _ _ (@ji _ _ _ _) (@ja _ _ _ _ _ (@ji _ _ _ _) (@ja0 _) (star1 rfl)) (star1 rfl))) (by rfl) (by walk_at "f")) (@jsc _ _ _ _ _ (@jfor _ _ _ _ _ _ _ _ PassesOwn.never rfl (@jiEnum _ _ _ _ _ _ _ _ rfl z_enumerate (@ja _ _ _ _ _ (@jV _ 0 _ _ rfl (by walk_at "v")) (@ja0 _) (star1 rfl)) (by rfl)) (@jgt _ _ _ _ _ _ rfl (@jgsc _ _ _ _ _ (@jg _ _ (2) _ Z0K.nd rfl (Or.inl rfl) (by walk_at "f")) (@jgsc _ _ _ _ _ (@jg _ _ (3) _ Z0K.nd rfl (Or.inr rfl) (by walk_at "f")) (@jgs0 _) (by rfl)) (by rfl)) (by rfl) (by rfl)) (@jsc _ _ _ _ _ (@jsetc _ _ _ _ _ _ _ (defScope Z0u) (["ahead"]) (["parts" , "joint" , "number" , "part" , "again"]) ([("part" , 3)]) _ _ _ _ (4) _ _ _ Z0K.nd rfl (Or.inl rfl) rfl rfl rfl (@jiSeq _ _ _ _ (@jsl _ _ _ _ _ _ _ _ _ (@jV _ 0 _ _ rfl (by walk_at "v")) (@jo0 _) (@jo _ _ _ (@jV _ 2 _ _ rfl (by walk_at "v"))))) rfl rfl (by decide +kernel) (by decide +kernel) (by decide +kernel) (by decide +kernel) (fun cl C s3 H2 ex=>(@jg _ _ (0) _ (show List.Nodup (["ahead" , "part"]:List Str) from by decide +kernel) rfl (Or.inl rfl) (by walk_at "f"))) (fun cl C s3 H2 ex=>(@jts0 _)) (fun cl C s3 H2 ex=>(@jcallC _ _ _ _ _ _ _ _ _ _ Z1f (hr.mono (by omega)) rfl (@ja _ _ _ _ _ (@jV _ 1 _ _ rfl (by walk_at "v")) (@ja _ _ _ _ _ (@jV _ 0 _ _ rfl (by walk_at "v")) (@ja0 _) (star1 rfl)) (star1 rfl)) (by decide) (star1 rfl) (stars rfl))) (fun _=>rfl) (by rfl) (by walk_at "f")) (@js1 _ _ _ (@jset _ _ _ _ (1) _ _ Z0K.nd rfl (Or.inl rfl) (@jcallC _ _ _ _ _ _ _ _ _ _ Z09 (hr.mono (by omega)) rfl (@ja _ _ _ _ _ (@jV _ 1 _ _ rfl (by walk_at "v")) (@ja _ _ _ _ _ (@jcallC _ _ _ _ _ _ _ _ _ _ Z02 (hr.mono (by omega)) rfl (@ja _ _ _ _ _ (@jcallC _ _ _ _ _ _ _ _ _ _ Z12 (hr.mono (by omega)) rfl (@ja _ _ _ _ _ (@jV _ 3 _ _ rfl (by walk_at "v")) (@ja0 _) (star1 rfl)) (by decide) (star1 rfl) (stars rfl)) (@ja _ _ _ _ _ (@jcallC _ _ _ _ _ _ _ _ _ _ Z1A (hr.mono (by omega)) rfl (@ja _ _ _ _ _ (@jV _ 4 _ _ rfl (by walk_at "v")) (@ja0 _) (star1 rfl)) (by decide) (star1 rfl) (stars rfl)) (@ja0 _) (star1 rfl)) (star1 rfl)) (by decide) (star1 rfl) (stars rfl)) (@ja0 _) (star1 rfl)) (star1 rfl)) (by decide) (star1 rfl) (stars rfl)) (by rfl) (by walk_at "f")))) (fun _=>rfl)) (@js1 _ _ _ (@jret _ _ _ _ (@jV _ 1 _ _ rfl (by walk_at "v"))))))) (Z49 n))
theorem Z4b{f:Addr}{fd:FuncData} (F:Fun K "joint_share" "joint_share" Z0u f fd) (m:mg "joint_share" = some (.ref f)) (Z1f:Cal P w K mg base 6 "both_of" ["one", "other"] Z0m) (Z12:Cal P w K mg base 4 "share_of" ["part"] Z0B) (Z02:Cal P w K mg base 3 "ratio_less" ["one", "other"] Z00) (Z09:Cal P w K mg base 3 "ratio_sum" ["one", "other"] Z03) (z_enumerate:mg "enumerate" = none):Cal P w K mg base 15 "joint_share" ["parts"] Z1i:=Z38 F m Z1f Z12 Z02 Z09 z_enumerate 8
abbrev Z1u:Stmt:=top 55
theorem Z29:FnScope ["yard", "hour", "name", "direction", "dial", "parts"] ["yard", "hour", "name"] (defScope Z1u):=by walk_at "s"
theorem Z4Q{f:Addr}{fd:FuncData} (F:Fun K "lit_share" "lit_share" Z1u f fd) (m:mg "lit_share" = some (.ref f)) (Z0Z:CalX P w K mg base 3 "direction_at" ["sun", "hour"] Z0w) (Z3C:CalX P w K mg base 1 "dial_of" ["yard", "name"] Z2b) (Z4y:CalX P w K mg base 4 "is_up" ["sun", "hour"] Z2p) (Z1L:Cal P w K mg base 3 "comes_from_ahead" ["plate", "direction"] Z0e) (Z2j:Cal P w K mg base 8 "parts_shaded" ["yard", "dial", "direction"] Z0x) (Z1A:Cal P w K mg base 15 "joint_share" ["parts"] Z1i) (Z02:Cal P w K mg base 3 "ratio_less" ["one", "other"] Z00) (z_len:mg "len" = none) (g_MOST_SHADING:GlC K mg "MOST_SHADING" c_MOST_SHADING) (x_TooMany:ExcCls K mg "TooMany"):CalX P w K mg base 16 "lit_share" ["yard", "hour", "name"] Z0E :=
 .mk F m (F.binds fun _ _ _ _ _ _ us hl=>args3 hl fun _ _ _=>rfl) (fnX (W:=Z31) F Z29 Z3e (fun R cdv A outer s H E hr tk=>have nd:=Z29.nd;
  (@jsc _ _ _ _ _ (@jset _ _ _ _ (3) _ _ Z29.nd rfl (Or.inl rfl) (@jcallX _ _ _ _ _ _ _ _ _ _ _ Z0Z tk (hr.mono (by omega)) rfl (by walk_at "D") (by decide) (star1 rfl) (stars rfl)) (by rfl) (by walk_at "f")) (@jsc _ _ _ _ _ (@jset _ _ _ _ (4) _ _ Z29.nd rfl (Or.inl rfl) (@jcallX _ _ _ _ _ _ _ _ _ _ _ Z3C tk (hr.mono (by omega)) rfl (by walk_at "D") (by decide) (star1 rfl) (stars rfl)) (by rfl) (by walk_at "f")) (@jsc _ _ _ _ _ (@jsif _ _ _ _ _ _ _ _ (@jw _ _ _ (@tor _ _ _ _ _ _ _ (@tnot _ _ _ _ (@tval _ _ _ (@jcallX _ _ _ _ _ _ _ _ _ _ _ Z4y tk (hr.mono (by omega)) rfl (by walk_at "D") (by decide) (star1 rfl) (stars rfl)) (fun _=>rfl))) (by walk_at "D"))) (@js1 _ _ _ (by walk_at "D")) (@js0 _)) (@jsc _ _ _ _ _ (by walk_at "D") (@jsc _ _ _ _ _ (@jsif _ _ _ _ _ _ _ _ (by walk_at "D") (@js1 _ _ _ (@jraise _ _ _ _ _ _ _ _ _ x_TooMany tk rfl rfl (by decide))) (@js0 _)) (@js1 _ _ _ (by walk_at "D")))))))) Z4L)
abbrev Z2X:Stmt:=top 66
theorem Z2Y:FnScope ["_law_yard_here", "_law_hour", "_law_name", "_law_caught", "_law_found", "e", "_law_kinds", "_law_odd"] ["_law_yard_here", "_law_hour", "_law_name"] (defScope Z2X):=by walk_at "s"
theorem Z66{f:Addr}{fd:FuncData} (F:Fun K "_law_told" "_law_told" Z2X f fd) (m:mg "_law_told" = some (.ref f)) (Z36:CalX P w K mg base 16 "lit_share" ["yard", "hour", "name"] Z0E) (z_isinstance:mg "isinstance" = none) (z_ValueError:mg "ValueError" = none) (ct_YardError:Catches K mg "YardError" ["NoHour", "NoName", "TooMany"]) (gf_hour:GetF K "hour" ["NoHour"]) {D_NoHour:Addr} (mc_NoHour:mg "NoHour" = some (.ref D_NoHour)) {D_NoName:Addr} (mc_NoName:mg "NoName" = some (.ref D_NoName)) {D_TooMany:Addr} (mc_TooMany:mg "TooMany" = some (.ref D_TooMany)) {D_NoBack:Addr} (mc_NoBack:mg "NoBack" = some (.ref D_NoBack)) {D_NoNumber:Addr} (mc_NoNumber:mg "NoNumber" = some (.ref D_NoNumber)) {D_NoPlate:Addr} (mc_NoPlate:mg "NoPlate" = some (.ref D_NoPlate)) {D_NoRow:Addr} (mc_NoRow:mg "NoRow" = some (.ref D_NoRow)) {D_NoSay:Addr} (mc_NoSay:mg "NoSay" = some (.ref D_NoSay)) {D_NoSun:Addr} (mc_NoSun:mg "NoSun" = some (.ref D_NoSun)) {D_NotLit:Addr} (mc_NotLit:mg "NotLit" = some (.ref D_NotLit)) {D_NoYard:Addr} (mc_NoYard:mg "NoYard" = some (.ref D_NoYard)) (an_NoHour:Ans1 K (.ref D_NoHour) [("NoHour", true),("NoName", false),("TooMany", false)]) (an_NoName:Ans1 K (.ref D_NoName) [("NoHour", false),("NoName", true),("TooMany", false)]) (an_TooMany:Ans1 K (.ref D_TooMany) [("NoHour", false),("NoName", false),("TooMany", true)]) (an_NoBack_NoNumber_NoPlate_NoRow_NoSay_NoSun_NotLit_NoYard:AnsN K (List.map Value.ref [D_NoBack,D_NoNumber,D_NoPlate,D_NoRow,D_NoSay,D_NoSun,D_NotLit,D_NoYard]) [("NoHour", false),("NoName", false),("TooMany", false)]) (an_ValueError:Ans1 K (.type "ValueError") [("NoHour", true),("NoName", true),("TooMany", true)]):Cal P w K mg base 17 "_law_told" ["_law_yard_here", "_law_hour", "_law_name"] Z0n :=
 .mk F m (F.binds fun _ _ _ _ _ _ us hl=>args3 hl fun _ _ _=>rfl) (fnT (W:=Z5a) F Z2Y Z4R (fun cdv A outer s H E hr=>have nd:=Z2Y.nd;
  (@jsc _ _ _ _ _ (by walk_at "D") (@jsc _ _ _ _ _ (by walk_at "D") (@jsc _ _ _ _ _ (@jtry _ _ _ _ _ _ _ (5) (3) _ _ _ _ _ _ (DefCx.mk rfl rfl rfl) ct_YardError Z2Y.nd rfl rfl (by decide) rfl rfl rfl (@jbSet _ _ _ _ _ _ _ _ _ _ (4) _ _ _ Z2Y.nd rfl (Or.inl rfl) Z36 (fun _ _ z=>z) (hr.mono (by omega)) rfl (by walk_at "D") (by decide) (star1 rfl) (stars rfl) (by rfl) (by walk_at "f")) (by decide) (by decide) (by decide)) (@jsc _ _ _ _ _ (by walk_at "D") (@jsc _ _ _ _ _ (@jset _ _ _ _ (6) _ _ Z2Y.nd rfl (Or.inl rfl) (@jlst _ _ _ _ (@ja _ _ _ _ _ (@jisO _ _ _ _ _ _ _ _ _ an_NoHour (by walk_at "D") rfl z_isinstance rfl mc_NoHour (by decide) (star1 rfl) (star1 rfl) (stars rfl)) (@ja _ _ _ _ _ (@jisO _ _ _ _ _ _ _ _ _ an_NoName (by walk_at "D") rfl z_isinstance rfl mc_NoName (by decide) (star1 rfl) (star1 rfl) (stars rfl)) (@ja _ _ _ _ _ (@jisO _ _ _ _ _ _ _ _ _ an_TooMany (by walk_at "D") rfl z_isinstance rfl mc_TooMany (by decide) (star1 rfl) (star1 rfl) (stars rfl)) (@ja0 _) (star1 rfl)) (star1 rfl)) (star1 rfl))) (by rfl) (by walk_at "f")) (@jsc _ _ _ _ _ (@jset _ _ _ _ (7) _ _ Z2Y.nd rfl (Or.inl rfl) (@jisN _ _ _ _ _ _ _ _ _ _ an_NoBack_NoNumber_NoPlate_NoRow_NoSay_NoSun_NotLit_NoYard (show 8<=1000 from (by decide)) (by walk_at "D") rfl z_isinstance (@crow _ _ _ _ _ _ rfl mc_NoBack (@crow _ _ _ _ _ _ rfl mc_NoNumber (@crow _ _ _ _ _ _ rfl mc_NoPlate (@crow _ _ _ _ _ _ rfl mc_NoRow (@crow _ _ _ _ _ _ rfl mc_NoSay (@crow _ _ _ _ _ _ rfl mc_NoSun (@crow _ _ _ _ _ _ rfl mc_NotLit (@crow _ _ _ _ _ _ rfl mc_NoYard (@crow0 _) (by decide)) (by decide)) (by decide)) (by decide)) (by decide)) (by decide)) (by decide)) (by decide)) (star1 rfl) (star1 rfl) (stars rfl)) (by rfl) (by walk_at "f")) (@jsc _ _ _ _ _ (@jsif _ _ _ _ _ _ _ _ (@jw _ _ _ (@tor _ _ _ _ _ _ _ (by walk_at "D") (@tor _ _ _ _ _ _ _ (@tcmp _ _ _ _ _ _ _ _ (c_ne hr) (@jcountB _ _ _ _ _ _ _ (by walk_at "D") (by walk_at "D") (star1 rfl) (by rfl) (by rfl) (by rfl)) (@ji _ _ _ _) (nomark _)) (@tor1 _ _ _ _ (@tnot _ _ _ _ (@tval _ _ _ (@jisB _ _ _ _ _ _ _ _ _ an_ValueError (by walk_at "D") rfl z_isinstance rfl z_ValueError PyProof.Rows.Boot.«ValueError» (by decide) (by decide) (star1 rfl) (star1 rfl) (stars rfl)) (fun _=>rfl))))))) (@js1 _ _ _ (@jret _ _ _ _ (@js _ _ _ _))) (@js0 _)) (@jsc _ _ _ _ _ (@jsif _ _ _ _ _ _ _ _ (by walk_at "D") (@js1 _ _ _ (@jret _ _ _ _ (@jtup _ _ _ _ _ (@ja _ _ _ _ _ (@js _ _ _ _) (@ja _ _ _ _ _ (@jfld _ _ _ _ _ _ gf_hour (by walk_at "D") (by rfl)) (@ja0 _) (star1 rfl)) (star1 rfl))))) (@js0 _)) (@js1 _ _ _ (@jret _ _ _ _ (@jix _ _ _ _ _ _ (by walk_at "D") (@jindexB _ _ _ _ _ _ _ (by walk_at "D") (by walk_at "D") (star1 rfl) (by rfl) (by rfl) (by rfl)) (fun _ _=>rfl))))))))))))) Z63)
abbrev Z2v:Stmt:=top 67
theorem Z4V:FnScope ["_law_found", "_law_due"] ["_law_found", "_law_due"] (defScope Z2v):=by walk_at "s"
theorem Z5X{f:Addr}{fd:FuncData} (F:Fun K "_law_alike" "_law_alike" Z2v f fd) (m:mg "_law_alike" = some (.ref f)) (z_isinstance:mg "isinstance" = none) (z_tuple:mg "tuple" = none) (z_bool:mg "bool" = none):Cal P w K mg base 1 "_law_alike" ["_law_found", "_law_due"] Z1p :=
 .mk F m (F.binds fun _ _ _ _ _ _ us hl=>args2 hl fun _ _=>rfl) (fnT (W:=Z3f) F Z4V Z5E (fun cdv A outer s H E hr=>by have nd:=Z4V.nd;unfold Z3f;walk_at "D") Z5S)
abbrev Z2a:Stmt:=top 68
theorem Z5l:FnScope ["_law_script", "_law_cell", "_law_size", "_law_low_here", "_law_direction", "_law_names_here", "_law_hour", "_law_sun", "_law_handed", "_law_due", "_law_later", "_law_found", "_law_name", "_law_one", "_law_shuts", "_law_dials", "_law_shades", "_law_down", "_law_noon"] ["_law_script"] (defScope Z2a):=by walk_at "s"
theorem Z6e{f:Addr}{fd:FuncData} (F:Fun K "law" "law" Z2a f fd) (Z2z:Cal P w K mg base 1 "_law_cell_at" ["_law_script", "_law_k"] Z0Q) (Z2o:Cal P w K mg base 1 "_law_draw" ["_law_cell", "_law_k", "_law_many"] Z07) (Z4s:Cal P w K mg base 2 "_law_names" ["_law_cell", "_law_many"] Z22) (Z5c:Cal P w K mg base 3 "_law_yard" ["_law_script", "_law_size", "_law_low_here", "_law_direction", "_law_names_here"] Z2y) (Z5H:Cal P w K mg base 2 "_law_lit" ["_law_size", "_law_shades"] Z2J) (Z5b:Cal P w K mg base 17 "_law_told" ["_law_yard_here", "_law_hour", "_law_name"] Z0n) (Z4q:Cal P w K mg base 1 "_law_alike" ["_law_found", "_law_due"] Z1p) (z_range:mg "range" = none) (z_tuple:mg "tuple" = none) (z_list:mg "list" = none) (z_len:mg "len" = none):FnT P w K mg base 18 f fd ["_law_script"] lawSp :=
 fnT (W:=Z5F) F Z5l len_law (fun cdv A outer s H E hr=>have nd:=Z5l.nd;
  (@jsc _ _ _ _ _ (by walk_at "D") (@jsc _ _ _ _ _ (by walk_at "D") (@jsc _ _ _ _ _ (@jset _ _ _ _ (3) _ _ Z5l.nd rfl (Or.inl rfl) (@jty _ _ _ _ _ _ _ _ _ ty_tuple rfl z_tuple boot_tuple (@ja _ _ _ _ _ (@jcomp _ _ _ _ _ _ _ (defScope Z2a) (["_law_k"]) (["_law_script" , "_law_cell" , "_law_size" , "_law_low_here" , "_law_direction" , "_law_names_here" , "_law_hour" , "_law_sun" , "_law_handed" , "_law_due" , "_law_later" , "_law_found" , "_law_name" , "_law_one" , "_law_shuts" , "_law_dials" , "_law_shades" , "_law_down" , "_law_noon"]) ([("_law_cell" , 1)]) _ _ _ _ rfl rfl rfl (by walk_at "D") rfl rfl (by decide +kernel) (by decide +kernel) (by decide +kernel) (by decide +kernel) (fun cl C s3 H2 ex=>(@jg _ _ (0) _ (show List.Nodup (["_law_k" , "_law_cell"]:List Str) from by decide +kernel) rfl (Or.inl rfl) (by walk_at "f"))) (fun cl C s3 H2 ex=>(@jts0 _)) (fun cl C s3 H2 ex=>(by walk_at "D")) (fun _=>rfl)) (@ja0 _) (star1 rfl)) (by decide) (by decide) (star1 rfl) (stars rfl)) (by rfl) (by walk_at "f")) (@jsc _ _ _ _ _ (by walk_at "D") (@jsc _ _ _ _ _ (by walk_at "D") (@jsc _ _ _ _ _ (by walk_at "D") (@jsc _ _ _ _ _ (by walk_at "D") (@jsc _ _ _ _ _ (by walk_at "D") (@jsc _ _ _ _ _ (by walk_at "D") (@jsc _ _ _ _ _ (by walk_at "D") (@jsc _ _ _ _ _ (by walk_at "D") (@jsc _ _ _ _ _ (by walk_at "D") (@jsc _ _ _ _ _ (by walk_at "D") (@jsc _ _ _ _ _ (by walk_at "D") (@jsc _ _ _ _ _ (by walk_at "D") (@jsc _ _ _ _ _ (by walk_at "D") (@jsc _ _ _ _ _ (by walk_at "D") (@jsc _ _ _ _ _ (by walk_at "D") (@jsc _ _ _ _ _ (@jfor _ _ _ _ _ _ _ _ PassesOwn.never rfl (by walk_at "D") (by walk_at "D") (@js1 _ _ _ (by walk_at "D")) (fun _=>rfl)) (@jsc _ _ _ _ _ (@jfor _ _ _ _ _ _ _ _ PassesOwn.never rfl (by walk_at "D") (by walk_at "D") (@js1 _ _ _ (by walk_at "D")) (fun _=>rfl)) (@js1 _ _ _ (by walk_at "D"))))))))))))))))))))))) Z6a
end
theorem all_mk{l:PySem.W.OpenLaw}{w:World}{K:PySem.W.Frag}{h:Heap}{mg:Str->Option Value}{fa f0 f1 f2 f3 f4 f5 f6 f7 f8 f9 f10 f11 f12 f13 f14 f15 f16 f17 f18 f19 f20 f21 f22 f23 f24 f25 f26 f27 f28 f29 f30 f31 f32 f33 f34 f35 f36 f37 f38 f39 f40 f41 f42 f43:Addr}(X:K.In h)(G:h.Ns mainGlobals mg) (hfa:mg "law" = some (.ref fa))
  {od0 an0 od1 an1 od2 an2 od3 an3 od4 an4 od5 an5 od6 an6 od7 an7 od8 an8 od9 an9 od10 an10 od11 an11 od12 an12 od13 an13 od14 an14 od15 an15 od16 an16 od17 an17 od18 an18 od19 an19 od20 an20 od21 an21 od22 an22 od23 an23 od24 an24 od25 an25 od26 an26 od27 an27 od28 an28 od29 an29 od30 an30 od31 an31 od32 an32 od33 an33 od34 an34 od35 an35 od36 an36 od37 an37 od38 an38 od39 an39 od40 an40 od41 an41 od42 an42 od43 an43:Option Addr} {sl0 sl1 sl2 sl3 sl4 sl5 sl6 sl7 sl8 sl9 sl10 sl11 sl12 sl13 sl14 sl15 sl16 sl17 sl18 sl19 sl20 sl21 sl22 sl23 sl24 sl25 sl26 sl27 sl28 sl29 sl30 sl31 sl32 sl33 sl34 sl35 sl36 sl37 sl38 sl39 sl40 sl41 sl42 sl43:Array (Option Value)} {oc0 kV0 dc0 pm0 cd0 ct0 oc1 kV1 dc1 pm1 cd1 ct1 oc2 kV2 dc2 pm2 cd2 ct2 oc3 kV3 dc3 pm3 cd3 ct3 oc4 kV4 dc4 pm4 cd4 ct4 oc5 kV5 dc5 pm5 cd5 ct5 oc6 kV6 dc6 pm6 cd6 ct6 oc7 kV7 dc7 pm7 cd7 ct7 oc8 kV8 dc8 pm8 cd8 ct8 oc9 kV9 dc9 pm9 cd9 ct9 oc10 kV10 dc10 pm10 cd10 ct10 oc11 kV11 dc11 pm11 cd11 ct11 oc12 kV12 dc12 pm12 cd12 ct12 oc13 kV13 dc13 pm13 cd13 ct13 oc14 kV14 dc14 pm14 cd14 ct14 oc15 kV15 dc15 pm15 cd15 ct15 oc16 kV16 dc16 pm16 cd16 ct16 oc17 kV17 dc17 pm17 cd17 ct17 oc18 kV18 dc18 pm18 cd18 ct18 oc19 kV19 dc19 pm19 cd19 ct19 oc20 kV20 dc20 pm20 cd20 ct20 oc21 kV21 dc21 pm21 cd21 ct21 oc22 kV22 dc22 pm22 cd22 ct22 oc23 kV23 dc23 pm23 cd23 ct23 oc24 kV24 dc24 pm24 cd24 ct24 oc25 kV25 dc25 pm25 cd25 ct25 oc26 kV26 dc26 pm26 cd26 ct26 oc27 kV27 dc27 pm27 cd27 ct27 oc28 kV28 dc28 pm28 cd28 ct28 oc29 kV29 dc29 pm29 cd29 ct29 oc30 kV30 dc30 pm30 cd30 ct30 oc31 kV31 dc31 pm31 cd31 ct31 oc32 kV32 dc32 pm32 cd32 ct32 oc33 kV33 dc33 pm33 cd33 ct33 oc34 kV34 dc34 pm34 cd34 ct34 oc35 kV35 dc35 pm35 cd35 ct35 oc36 kV36 dc36 pm36 cd36 ct36 oc37 kV37 dc37 pm37 cd37 ct37 oc38 kV38 dc38 pm38 cd38 ct38 oc39 kV39 dc39 pm39 cd39 ct39 oc40 kV40 dc40 pm40 cd40 ct40 oc41 kV41 dc41 pm41 cd41 ct41 oc42 kV42 dc42 pm42 cd42 ct42 oc43 kV43 dc43 pm43 cd43 ct43:Value}
  (a0:PySem.W.nsIn K mainGlobals "_law_cell_at" = some (some (.ref f0))) (l0:K.lookup f0=some ⟨oc0,od0,.func (PySem.W.fnOf "_law_cell_at" "_law_cell_at" (defArgs Z1V) (defBody Z1V) (defScope Z1V) .none kV0 dc0 pm0 an0 cd0 ct0),sl0⟩) (c0:PySem.W.codeIn K cd0 "_law_cell_at" = true) (k0:PySem.W.keepIn K (.ref f0)=true)
  (a1:PySem.W.nsIn K mainGlobals "_law_draw" = some (some (.ref f1))) (l1:K.lookup f1=some ⟨oc1,od1,.func (PySem.W.fnOf "_law_draw" "_law_draw" (defArgs Z2T) (defBody Z2T) (defScope Z2T) .none kV1 dc1 pm1 an1 cd1 ct1),sl1⟩) (c1:PySem.W.codeIn K cd1 "_law_draw" = true) (k1:PySem.W.keepIn K (.ref f1)=true)
  (a2:PySem.W.nsIn K mainGlobals "_law_names" = some (some (.ref f2))) (l2:K.lookup f2=some ⟨oc2,od2,.func (PySem.W.fnOf "_law_names" "_law_names" (defArgs Z25) (defBody Z25) (defScope Z25) .none kV2 dc2 pm2 an2 cd2 ct2),sl2⟩) (c2:PySem.W.codeIn K cd2 "_law_names" = true) (k2:PySem.W.keepIn K (.ref f2)=true)
  (a3:PySem.W.nsIn K mainGlobals "_law_level" = some (some (.ref f3))) (l3:K.lookup f3=some ⟨oc3,od3,.func (PySem.W.fnOf "_law_level" "_law_level" (defArgs Z2s) (defBody Z2s) (defScope Z2s) .none kV3 dc3 pm3 an3 cd3 ct3),sl3⟩) (c3:PySem.W.codeIn K cd3 "_law_level" = true) (k3:PySem.W.keepIn K (.ref f3)=true)
  (a4:PySem.W.nsIn K mainGlobals "_law_tip" = some (some (.ref f4))) (l4:K.lookup f4=some ⟨oc4,od4,.func (PySem.W.fnOf "_law_tip" "_law_tip" (defArgs Z3p) (defBody Z3p) (defScope Z3p) .none kV4 dc4 pm4 an4 cd4 ct4),sl4⟩) (c4:PySem.W.codeIn K cd4 "_law_tip" = true) (k4:PySem.W.keepIn K (.ref f4)=true)
  (a5:PySem.W.nsIn K mainGlobals "_law_shade" = some (some (.ref f5))) (l5:K.lookup f5=some ⟨oc5,od5,.func (PySem.W.fnOf "_law_shade" "_law_shade" (defArgs Z2t) (defBody Z2t) (defScope Z2t) .none kV5 dc5 pm5 an5 cd5 ct5),sl5⟩) (c5:PySem.W.codeIn K cd5 "_law_shade" = true) (k5:PySem.W.keepIn K (.ref f5)=true)
  (a6:PySem.W.nsIn K mainGlobals "_law_yard" = some (some (.ref f6))) (l6:K.lookup f6=some ⟨oc6,od6,.func (PySem.W.fnOf "_law_yard" "_law_yard" (defArgs Z2U) (defBody Z2U) (defScope Z2U) .none kV6 dc6 pm6 an6 cd6 ct6),sl6⟩) (c6:PySem.W.codeIn K cd6 "_law_yard" = true) (k6:PySem.W.keepIn K (.ref f6)=true)
  (a7:PySem.W.nsIn K mainGlobals "_law_low" = some (some (.ref f7))) (l7:K.lookup f7=some ⟨oc7,od7,.func (PySem.W.fnOf "_law_low" "_law_low" (defArgs Z3q) (defBody Z3q) (defScope Z3q) .none kV7 dc7 pm7 an7 cd7 ct7),sl7⟩) (c7:PySem.W.codeIn K cd7 "_law_low" = true) (k7:PySem.W.keepIn K (.ref f7)=true)
  (a8:PySem.W.nsIn K mainGlobals "_law_lit" = some (some (.ref f8))) (l8:K.lookup f8=some ⟨oc8,od8,.func (PySem.W.fnOf "_law_lit" "_law_lit" (defArgs Z35) (defBody Z35) (defScope Z35) .none kV8 dc8 pm8 an8 cd8 ct8),sl8⟩) (c8:PySem.W.codeIn K cd8 "_law_lit" = true) (k8:PySem.W.keepIn K (.ref f8)=true)
  (a9:PySem.W.nsIn K mainGlobals "is_whole" = some (some (.ref f9))) (l9:K.lookup f9=some ⟨oc9,od9,.func (PySem.W.fnOf "is_whole" "is_whole" (defArgs Z1D) (defBody Z1D) (defScope Z1D) .none kV9 dc9 pm9 an9 cd9 ct9),sl9⟩) (c9:PySem.W.codeIn K cd9 "is_whole" = true) (k9:PySem.W.keepIn K (.ref f9)=true)
  (a10:PySem.W.nsIn K mainGlobals "direction_at" = some (some (.ref f10))) (l10:K.lookup f10=some ⟨oc10,od10,.func (PySem.W.fnOf "direction_at" "direction_at" (defArgs Z0S) (defBody Z0S) (defScope Z0S) .none kV10 dc10 pm10 an10 cd10 ct10),sl10⟩) (c10:PySem.W.codeIn K cd10 "direction_at" = true) (k10:PySem.W.keepIn K (.ref f10)=true)
  (a11:PySem.W.nsIn K mainGlobals "dial_of" = some (some (.ref f11))) (l11:K.lookup f11=some ⟨oc11,od11,.func (PySem.W.fnOf "dial_of" "dial_of" (defArgs Z1W) (defBody Z1W) (defScope Z1W) .none kV11 dc11 pm11 an11 cd11 ct11),sl11⟩) (c11:PySem.W.codeIn K cd11 "dial_of" = true) (k11:PySem.W.keepIn K (.ref f11)=true)
  (a12:PySem.W.nsIn K mainGlobals "is_up" = some (some (.ref f12))) (l12:K.lookup f12=some ⟨oc12,od12,.func (PySem.W.fnOf "is_up" "is_up" (defArgs Z2u) (defBody Z2u) (defScope Z2u) .none kV12 dc12 pm12 an12 cd12 ct12),sl12⟩) (c12:PySem.W.codeIn K cd12 "is_up" = true) (k12:PySem.W.keepIn K (.ref f12)=true)
  (a13:PySem.W.nsIn K mainGlobals "cross_of" = some (some (.ref f13))) (l13:K.lookup f13=some ⟨oc13,od13,.func (PySem.W.fnOf "cross_of" "cross_of" (defArgs Z1E) (defBody Z1E) (defScope Z1E) .none kV13 dc13 pm13 an13 cd13 ct13),sl13⟩) (c13:PySem.W.codeIn K cd13 "cross_of" = true) (k13:PySem.W.keepIn K (.ref f13)=true)
  (a14:PySem.W.nsIn K mainGlobals "front_of" = some (some (.ref f14))) (l14:K.lookup f14=some ⟨oc14,od14,.func (PySem.W.fnOf "front_of" "front_of" (defArgs Z1F) (defBody Z1F) (defScope Z1F) .none kV14 dc14 pm14 an14 cd14 ct14),sl14⟩) (c14:PySem.W.codeIn K cd14 "front_of" = true) (k14:PySem.W.keepIn K (.ref f14)=true)
  (a15:PySem.W.nsIn K mainGlobals "dot_of" = some (some (.ref f15))) (l15:K.lookup f15=some ⟨oc15,od15,.func (PySem.W.fnOf "dot_of" "dot_of" (defArgs Z26) (defBody Z26) (defScope Z26) .none kV15 dc15 pm15 an15 cd15 ct15),sl15⟩) (c15:PySem.W.codeIn K cd15 "dot_of" = true) (k15:PySem.W.keepIn K (.ref f15)=true)
  (a16:PySem.W.nsIn K mainGlobals "comes_from_ahead" = some (some (.ref f16))) (l16:K.lookup f16=some ⟨oc16,od16,.func (PySem.W.fnOf "comes_from_ahead" "comes_from_ahead" (defArgs Z0o) (defBody Z0o) (defScope Z0o) .none kV16 dc16 pm16 an16 cd16 ct16),sl16⟩) (c16:PySem.W.codeIn K cd16 "comes_from_ahead" = true) (k16:PySem.W.keepIn K (.ref f16)=true)
  (a17:PySem.W.nsIn K mainGlobals "greatest_factor" = some (some (.ref f17))) (l17:K.lookup f17=some ⟨oc17,od17,.func (PySem.W.fnOf "greatest_factor" "greatest_factor" (defArgs Z0t) (defBody Z0t) (defScope Z0t) .none kV17 dc17 pm17 an17 cd17 ct17),sl17⟩) (c17:PySem.W.codeIn K cd17 "greatest_factor" = true) (k17:PySem.W.keepIn K (.ref f17)=true)
  (a18:PySem.W.nsIn K mainGlobals "ratio_of" = some (some (.ref f18))) (l18:K.lookup f18=some ⟨oc18,od18,.func (PySem.W.fnOf "ratio_of" "ratio_of" (defArgs Z1G) (defBody Z1G) (defScope Z1G) .none kV18 dc18 pm18 an18 cd18 ct18),sl18⟩) (c18:PySem.W.codeIn K cd18 "ratio_of" = true) (k18:PySem.W.keepIn K (.ref f18)=true)
  (a19:PySem.W.nsIn K mainGlobals "ratio_times" = some (some (.ref f19))) (l19:K.lookup f19=some ⟨oc19,od19,.func (PySem.W.fnOf "ratio_times" "ratio_times" (defArgs Z10) (defBody Z10) (defScope Z10) .none kV19 dc19 pm19 an19 cd19 ct19),sl19⟩) (c19:PySem.W.codeIn K cd19 "ratio_times" = true) (k19:PySem.W.keepIn K (.ref f19)=true)
  (a20:PySem.W.nsIn K mainGlobals "ratio_sum" = some (some (.ref f20))) (l20:K.lookup f20=some ⟨oc20,od20,.func (PySem.W.fnOf "ratio_sum" "ratio_sum" (defArgs Z1r) (defBody Z1r) (defScope Z1r) .none kV20 dc20 pm20 an20 cd20 ct20),sl20⟩) (c20:PySem.W.codeIn K cd20 "ratio_sum" = true) (k20:PySem.W.keepIn K (.ref f20)=true)
  (a21:PySem.W.nsIn K mainGlobals "number_at" = some (some (.ref f21))) (l21:K.lookup f21=some ⟨oc21,od21,.func (PySem.W.fnOf "number_at" "number_at" (defArgs Z1s) (defBody Z1s) (defScope Z1s) .none kV21 dc21 pm21 an21 cd21 ct21),sl21⟩) (c21:PySem.W.codeIn K cd21 "number_at" = true) (k21:PySem.W.keepIn K (.ref f21)=true)
  (a22:PySem.W.nsIn K mainGlobals "point_of" = some (some (.ref f22))) (l22:K.lookup f22=some ⟨oc22,od22,.func (PySem.W.fnOf "point_of" "point_of" (defArgs Z1g) (defBody Z1g) (defScope Z1g) .none kV22 dc22 pm22 an22 cd22 ct22),sl22⟩) (c22:PySem.W.codeIn K cd22 "point_of" = true) (k22:PySem.W.keepIn K (.ref f22)=true)
  (a23:PySem.W.nsIn K mainGlobals "ratio_less" = some (some (.ref f23))) (l23:K.lookup f23=some ⟨oc23,od23,.func (PySem.W.fnOf "ratio_less" "ratio_less" (defArgs Z1b) (defBody Z1b) (defScope Z1b) .none kV23 dc23 pm23 an23 cd23 ct23),sl23⟩) (c23:PySem.W.codeIn K cd23 "ratio_less" = true) (k23:PySem.W.keepIn K (.ref f23)=true)
  (a24:PySem.W.nsIn K mainGlobals "point_less" = some (some (.ref f24))) (l24:K.lookup f24=some ⟨oc24,od24,.func (PySem.W.fnOf "point_less" "point_less" (defArgs Z0W) (defBody Z0W) (defScope Z0W) .none kV24 dc24 pm24 an24 cd24 ct24),sl24⟩) (c24:PySem.W.codeIn K cd24 "point_less" = true) (k24:PySem.W.keepIn K (.ref f24)=true)
  (a25:PySem.W.nsIn K mainGlobals "point_dot" = some (some (.ref f25))) (l25:K.lookup f25=some ⟨oc25,od25,.func (PySem.W.fnOf "point_dot" "point_dot" (defArgs Z16) (defBody Z16) (defScope Z16) .none kV25 dc25 pm25 an25 cd25 ct25),sl25⟩) (c25:PySem.W.codeIn K cd25 "point_dot" = true) (k25:PySem.W.keepIn K (.ref f25)=true)
  (a26:PySem.W.nsIn K mainGlobals "ratio_by" = some (some (.ref f26))) (l26:K.lookup f26=some ⟨oc26,od26,.func (PySem.W.fnOf "ratio_by" "ratio_by" (defArgs Z1H) (defBody Z1H) (defScope Z1H) .none kV26 dc26 pm26 an26 cd26 ct26),sl26⟩) (c26:PySem.W.codeIn K cd26 "ratio_by" = true) (k26:PySem.W.keepIn K (.ref f26)=true)
  (a27:PySem.W.nsIn K mainGlobals "meeting_of" = some (some (.ref f27))) (l27:K.lookup f27=some ⟨oc27,od27,.func (PySem.W.fnOf "meeting_of" "meeting_of" (defArgs Z1c) (defBody Z1c) (defScope Z1c) .none kV27 dc27 pm27 an27 cd27 ct27),sl27⟩) (c27:PySem.W.codeIn K cd27 "meeting_of" = true) (k27:PySem.W.keepIn K (.ref f27)=true)
  (a28:PySem.W.nsIn K mainGlobals "place_between" = some (some (.ref f28))) (l28:K.lookup f28=some ⟨oc28,od28,.func (PySem.W.fnOf "place_between" "place_between" (defArgs Z0r) (defBody Z0r) (defScope Z0r) .none kV28 dc28 pm28 an28 cd28 ct28),sl28⟩) (c28:PySem.W.codeIn K cd28 "place_between" = true) (k28:PySem.W.keepIn K (.ref f28)=true)
  (a29:PySem.W.nsIn K mainGlobals "cut_at_nought" = some (some (.ref f29))) (l29:K.lookup f29=some ⟨oc29,od29,.func (PySem.W.fnOf "cut_at_nought" "cut_at_nought" (defArgs Z0I) (defBody Z0I) (defScope Z0I) .none kV29 dc29 pm29 an29 cd29 ct29),sl29⟩) (c29:PySem.W.codeIn K cd29 "cut_at_nought" = true) (k29:PySem.W.keepIn K (.ref f29)=true)
  (a30:PySem.W.nsIn K mainGlobals "share_of" = some (some (.ref f30))) (l30:K.lookup f30=some ⟨oc30,od30,.func (PySem.W.fnOf "share_of" "share_of" (defArgs Z1I) (defBody Z1I) (defScope Z1I) .none kV30 dc30 pm30 an30 cd30 ct30),sl30⟩) (c30:PySem.W.codeIn K cd30 "share_of" = true) (k30:PySem.W.keepIn K (.ref f30)=true)
  (a31:PySem.W.nsIn K mainGlobals "turn_of" = some (some (.ref f31))) (l31:K.lookup f31=some ⟨oc31,od31,.func (PySem.W.fnOf "turn_of" "turn_of" (defArgs Z1d) (defBody Z1d) (defScope Z1d) .none kV31 dc31 pm31 an31 cd31 ct31),sl31⟩) (c31:PySem.W.codeIn K cd31 "turn_of" = true) (k31:PySem.W.keepIn K (.ref f31)=true)
  (a32:PySem.W.nsIn K mainGlobals "is_under" = some (some (.ref f32))) (l32:K.lookup f32=some ⟨oc32,od32,.func (PySem.W.fnOf "is_under" "is_under" (defArgs Z1J) (defBody Z1J) (defScope Z1J) .none kV32 dc32 pm32 an32 cd32 ct32),sl32⟩) (c32:PySem.W.codeIn K cd32 "is_under" = true) (k32:PySem.W.keepIn K (.ref f32)=true)
  (a33:PySem.W.nsIn K mainGlobals "is_lower_place" = some (some (.ref f33))) (l33:K.lookup f33=some ⟨oc33,od33,.func (PySem.W.fnOf "is_lower_place" "is_lower_place" (defArgs Z0y) (defBody Z0y) (defScope Z0y) .none kV33 dc33 pm33 an33 cd33 ct33),sl33⟩) (c33:PySem.W.codeIn K cd33 "is_lower_place" = true) (k33:PySem.W.keepIn K (.ref f33)=true)
  (a34:PySem.W.nsIn K mainGlobals "begun_lowest" = some (some (.ref f34))) (l34:K.lookup f34=some ⟨oc34,od34,.func (PySem.W.fnOf "begun_lowest" "begun_lowest" (defArgs Z0T) (defBody Z0T) (defScope Z0T) .none kV34 dc34 pm34 an34 cd34 ct34),sl34⟩) (c34:PySem.W.codeIn K cd34 "begun_lowest" = true) (k34:PySem.W.keepIn K (.ref f34)=true)
  (a35:PySem.W.nsIn K mainGlobals "part_round" = some (some (.ref f35))) (l35:K.lookup f35=some ⟨oc35,od35,.func (PySem.W.fnOf "part_round" "part_round" (defArgs Z0X) (defBody Z0X) (defScope Z0X) .none kV35 dc35 pm35 an35 cd35 ct35),sl35⟩) (c35:PySem.W.codeIn K cd35 "part_round" = true) (k35:PySem.W.keepIn K (.ref f35)=true)
  (a36:PySem.W.nsIn K mainGlobals "both_of" = some (some (.ref f36))) (l36:K.lookup f36=some ⟨oc36,od36,.func (PySem.W.fnOf "both_of" "both_of" (defArgs Z1B) (defBody Z1B) (defScope Z1B) .none kV36 dc36 pm36 an36 cd36 ct36),sl36⟩) (c36:PySem.W.codeIn K cd36 "both_of" = true) (k36:PySem.W.keepIn K (.ref f36)=true)
  (a37:PySem.W.nsIn K mainGlobals "shaded_by" = some (some (.ref f37))) (l37:K.lookup f37=some ⟨oc37,od37,.func (PySem.W.fnOf "shaded_by" "shaded_by" (defArgs Z0p) (defBody Z0p) (defScope Z0p) .none kV37 dc37 pm37 an37 cd37 ct37),sl37⟩) (c37:PySem.W.codeIn K cd37 "shaded_by" = true) (k37:PySem.W.keepIn K (.ref f37)=true)
  (a38:PySem.W.nsIn K mainGlobals "parts_shaded" = some (some (.ref f38))) (l38:K.lookup f38=some ⟨oc38,od38,.func (PySem.W.fnOf "parts_shaded" "parts_shaded" (defArgs Z0g) (defBody Z0g) (defScope Z0g) .none kV38 dc38 pm38 an38 cd38 ct38),sl38⟩) (c38:PySem.W.codeIn K cd38 "parts_shaded" = true) (k38:PySem.W.keepIn K (.ref f38)=true)
  (a39:PySem.W.nsIn K mainGlobals "joint_share" = some (some (.ref f39))) (l39:K.lookup f39=some ⟨oc39,od39,.func (PySem.W.fnOf "joint_share" "joint_share" (defArgs Z0u) (defBody Z0u) (defScope Z0u) .none kV39 dc39 pm39 an39 cd39 ct39),sl39⟩) (c39:PySem.W.codeIn K cd39 "joint_share" = true) (k39:PySem.W.keepIn K (.ref f39)=true)
  (a40:PySem.W.nsIn K mainGlobals "lit_share" = some (some (.ref f40))) (l40:K.lookup f40=some ⟨oc40,od40,.func (PySem.W.fnOf "lit_share" "lit_share" (defArgs Z1u) (defBody Z1u) (defScope Z1u) .none kV40 dc40 pm40 an40 cd40 ct40),sl40⟩) (c40:PySem.W.codeIn K cd40 "lit_share" = true) (k40:PySem.W.keepIn K (.ref f40)=true)
  (a41:PySem.W.nsIn K mainGlobals "_law_told" = some (some (.ref f41))) (l41:K.lookup f41=some ⟨oc41,od41,.func (PySem.W.fnOf "_law_told" "_law_told" (defArgs Z2X) (defBody Z2X) (defScope Z2X) .none kV41 dc41 pm41 an41 cd41 ct41),sl41⟩) (c41:PySem.W.codeIn K cd41 "_law_told" = true) (k41:PySem.W.keepIn K (.ref f41)=true)
  (a42:PySem.W.nsIn K mainGlobals "_law_alike" = some (some (.ref f42))) (l42:K.lookup f42=some ⟨oc42,od42,.func (PySem.W.fnOf "_law_alike" "_law_alike" (defArgs Z2v) (defBody Z2v) (defScope Z2v) .none kV42 dc42 pm42 an42 cd42 ct42),sl42⟩) (c42:PySem.W.codeIn K cd42 "_law_alike" = true) (k42:PySem.W.keepIn K (.ref f42)=true)
  (a43:PySem.W.nsIn K mainGlobals "law" = some (some (.ref f43))) (l43:K.lookup f43=some ⟨oc43,od43,.func (PySem.W.fnOf "law" "law" (defArgs Z2a) (defBody Z2a) (defScope Z2a) .none kV43 dc43 pm43 an43 cd43 ct43),sl43⟩) (c43:PySem.W.codeIn K cd43 "law" = true) (k43:PySem.W.keepIn K (.ref f43)=true)
  (z0:PySem.W.nsIn K mainGlobals "len" = some none)
  (z1:PySem.W.nsIn K mainGlobals "range" = some none)
  (z2:PySem.W.nsIn K mainGlobals "int" = some none)
  (z3:PySem.W.nsIn K mainGlobals "enumerate" = some none)
  (z4:PySem.W.nsIn K mainGlobals "min" = some none)
  (z5:PySem.W.nsIn K mainGlobals "max" = some none)
  (z6:PySem.W.nsIn K mainGlobals "isinstance" = some none)
  (z7:PySem.W.nsIn K mainGlobals "bool" = some none)
  (z8:PySem.W.nsIn K mainGlobals "str" = some none)
  (z9:PySem.W.nsIn K mainGlobals "abs" = some none)
  (z10:PySem.W.nsIn K mainGlobals "tuple" = some none)
  (z11:PySem.W.nsIn K mainGlobals "all" = some none)
  (z12:PySem.W.nsIn K mainGlobals "reversed" = some none)
  (z13:PySem.W.nsIn K mainGlobals "list" = some none)
  (z14:PySem.W.nsIn K mainGlobals "ValueError" = some none)
  {nt0_0_0_0 nt0_0_0_1 nt0_0_1_0 nt0_0_1_1 nt0_1_0_0 nt0_1_0_1 nt0_1_1_0 nt0_1_1_1 nt0_2_0_0 nt0_2_0_1 nt0_2_1_0 nt0_2_1_1 nt0_3_0_0 nt0_3_0_1 nt0_3_1_0 nt0_3_1_1:Tok} {np0 np0_0 np0_0_0 np0_0_1 np0_1 np0_1_0 np0_1_1 np0_2 np0_2_0 np0_2_1 np0_3 np0_3_0 np0_3_1:Addr} {no0 no0_0 no0_0_0 no0_0_1 no0_1 no0_1_0 no0_1_1 no0_2 no0_2_0 no0_2_1 no0_3 no0_3_0 no0_3_1:Option Addr} {nn0 nn0_0 nn0_0_0 nn0_0_1 nn0_1 nn0_1_0 nn0_1_1 nn0_2 nn0_2_0 nn0_2_1 nn0_3 nn0_3_0 nn0_3_1:Nat} {ns0 ns0_0 ns0_0_0 ns0_0_1 ns0_1 ns0_1_0 ns0_1_1 ns0_2 ns0_2_0 ns0_2_1 ns0_3 ns0_3_0 ns0_3_1:Array (Option Value)} (cg0:PySem.W.nsIn K mainGlobals "WHOLE" = some (some (.ref np0))) (nh0:K.lookup np0=some ⟨.type "tuple", no0,.seq #[.ref np0_0,.ref np0_1,.ref np0_2,.ref np0_3] nn0,ns0⟩) (nh0_0:K.lookup np0_0=some ⟨.type "tuple", no0_0,.seq #[.ref np0_0_0,.ref np0_0_1] nn0_0,ns0_0⟩) (nh0_0_0:K.lookup np0_0_0=some ⟨.type "tuple", no0_0_0,.seq #[.int (0) nt0_0_0_0,.int (1) nt0_0_0_1] nn0_0_0,ns0_0_0⟩) (nh0_0_1:K.lookup np0_0_1=some ⟨.type "tuple", no0_0_1,.seq #[.int (0) nt0_0_1_0,.int (1) nt0_0_1_1] nn0_0_1,ns0_0_1⟩) (nh0_1:K.lookup np0_1=some ⟨.type "tuple", no0_1,.seq #[.ref np0_1_0,.ref np0_1_1] nn0_1,ns0_1⟩) (nh0_1_0:K.lookup np0_1_0=some ⟨.type "tuple", no0_1_0,.seq #[.int (1) nt0_1_0_0,.int (1) nt0_1_0_1] nn0_1_0,ns0_1_0⟩) (nh0_1_1:K.lookup np0_1_1=some ⟨.type "tuple", no0_1_1,.seq #[.int (0) nt0_1_1_0,.int (1) nt0_1_1_1] nn0_1_1,ns0_1_1⟩) (nh0_2:K.lookup np0_2=some ⟨.type "tuple", no0_2,.seq #[.ref np0_2_0,.ref np0_2_1] nn0_2,ns0_2⟩) (nh0_2_0:K.lookup np0_2_0=some ⟨.type "tuple", no0_2_0,.seq #[.int (1) nt0_2_0_0,.int (1) nt0_2_0_1] nn0_2_0,ns0_2_0⟩) (nh0_2_1:K.lookup np0_2_1=some ⟨.type "tuple", no0_2_1,.seq #[.int (1) nt0_2_1_0,.int (1) nt0_2_1_1] nn0_2_1,ns0_2_1⟩) (nh0_3:K.lookup np0_3=some ⟨.type "tuple", no0_3,.seq #[.ref np0_3_0,.ref np0_3_1] nn0_3,ns0_3⟩) (nh0_3_0:K.lookup np0_3_0=some ⟨.type "tuple", no0_3_0,.seq #[.int (0) nt0_3_0_0,.int (1) nt0_3_0_1] nn0_3_0,ns0_3_0⟩) (nh0_3_1:K.lookup np0_3_1=some ⟨.type "tuple", no0_3_1,.seq #[.int (1) nt0_3_1_0,.int (1) nt0_3_1_1] nn0_3_1,ns0_3_1⟩)
  {ctk1:Tok} (cg1:PySem.W.nsIn K mainGlobals "MOST_SHADING" = some (some (.int 6 ctk1)))
  {FI_NoHour:Addr} {odI_NoHour anI_NoHour:Option Addr} {kVI_NoHour dcI_NoHour pmI_NoHour cdI_NoHour ctI_NoHour:Value} {slI_NoHour:Array (Option Value)} {CD_NoHour:ClassData}
  {D_NoHour D_NoName D_TooMany D_YardError D_NoBack D_NoNumber D_NoPlate D_NoRow D_NoSay D_NoSun D_NotLit D_NoYard:Addr} (dd_NoHour:PySem.W.nsIn K mainGlobals "NoHour" = some (some (.ref D_NoHour))) (dd_NoName:PySem.W.nsIn K mainGlobals "NoName" = some (some (.ref D_NoName))) (dd_TooMany:PySem.W.nsIn K mainGlobals "TooMany" = some (some (.ref D_TooMany))) (dd_YardError:PySem.W.nsIn K mainGlobals "YardError" = some (some (.ref D_YardError))) (dd_NoBack:PySem.W.nsIn K mainGlobals "NoBack" = some (some (.ref D_NoBack))) (dd_NoNumber:PySem.W.nsIn K mainGlobals "NoNumber" = some (some (.ref D_NoNumber))) (dd_NoPlate:PySem.W.nsIn K mainGlobals "NoPlate" = some (some (.ref D_NoPlate))) (dd_NoRow:PySem.W.nsIn K mainGlobals "NoRow" = some (some (.ref D_NoRow))) (dd_NoSay:PySem.W.nsIn K mainGlobals "NoSay" = some (some (.ref D_NoSay))) (dd_NoSun:PySem.W.nsIn K mainGlobals "NoSun" = some (some (.ref D_NoSun))) (dd_NotLit:PySem.W.nsIn K mainGlobals "NotLit" = some (some (.ref D_NotLit))) (dd_NoYard:PySem.W.nsIn K mainGlobals "NoYard" = some (some (.ref D_NoYard))) (ff_NoHour:PySem.W.findIn K (.ref D_NoHour) "__init__" = some (some (.ref FI_NoHour))) (xi_NoHour:ownIn K D_NoHour FI_NoHour=true) (li_NoHour:K.lookup FI_NoHour=some ⟨.type "function", odI_NoHour,.func (PySem.W.fnOf "__init__" "NoHour.__init__" (defArgs ini_NoHour) (defBody ini_NoHour) (defScope ini_NoHour) .none kVI_NoHour dcI_NoHour pmI_NoHour anI_NoHour cdI_NoHour ctI_NoHour),slI_NoHour⟩) (lc_NoHour:PySem.W.codeIn K cdI_NoHour "NoHour.__init__" = true) (lk_NoHour:PySem.W.keepIn K (.ref FI_NoHour)=true) (ci_NoHour:PySem.W.clsIn K D_NoHour=some CD_NoHour) (mr_NoHour:CD_NoHour.mro=List.map Value.ref [D_NoHour,D_YardError]++mroVE) (hd_NoHour:CD_NoHour.hasDict=true) (sa_NoHour:PySem.W.findIn K (.ref D_NoHour) "__setattr__" = some (some (.builtin "object.__setattr__"))) (na_NoHour:PySem.W.findIn K (.ref D_NoHour) "hour" = some none) (sp_NoHour:PySem.W.specialIn K (.ref D_YardError) "__getattribute__" = some (some (.builtin "type.__getattribute__"))) (rd_NoHour:PySem.W.readsIn K D_YardError (.type "type")=true) (fk_NoHour:PySem.W.findCls K (.ref D_YardError) (.type "type") "__init__" = some (.val (.builtin "ValueError.__init__"))) (fa_NoHour:PySem.W.findIn K (.ref D_NoHour) "__getattribute__" = some (some (.builtin "BaseException.__getattribute__"))) (fb_NoHour:PySem.W.findIn K (.ref D_NoHour) "__class__" = some (some (.builtin "object.__class__"))) (fc_NoHour:PySem.W.findIn K (.ref D_NoHour) "__getattr__" = some none) (fd_NoHour:PySem.W.subIn K (.ref D_NoHour) (.type "BaseException")=some true) (fe_NoHour:PySem.W.subIn K (.ref D_NoHour) (.type "object")=some true) (em_YardError_NoHour:PySem.W.exmOne K (.ref D_NoHour) (.ref D_YardError)=some true) (ki_NoHour_NoHour:PySem.W.kitOne K (.ref D_NoHour) (.ref D_NoHour)=some true) (ki_NoName_NoHour:PySem.W.kitOne K (.ref D_NoHour) (.ref D_NoName)=some false) (ki_TooMany_NoHour:PySem.W.kitOne K (.ref D_NoHour) (.ref D_TooMany)=some false) (ki_NoBack_NoNumber_NoPlate_NoRow_NoSay_NoSun_NotLit_NoYard_NoHour:PySem.W.kitAny K (.ref D_NoHour) [.ref D_NoBack,.ref D_NoNumber,.ref D_NoPlate,.ref D_NoRow,.ref D_NoSay,.ref D_NoSun,.ref D_NotLit,.ref D_NoYard]=some false) (ki_ValueError_NoHour:PySem.W.kitOne K (.ref D_NoHour) (.type "ValueError")=some true) (xi_NoName:PySem.W.excIn K D_NoName [.type "ValueError", .type "Exception", .type "BaseException", .type "object"] "ValueError.__new__" = true) (fa_NoName:PySem.W.findIn K (.ref D_NoName) "__getattribute__" = some (some (.builtin "BaseException.__getattribute__"))) (fb_NoName:PySem.W.findIn K (.ref D_NoName) "__class__" = some (some (.builtin "object.__class__"))) (fc_NoName:PySem.W.findIn K (.ref D_NoName) "__getattr__" = some none) (fd_NoName:PySem.W.subIn K (.ref D_NoName) (.type "BaseException")=some true) (fe_NoName:PySem.W.subIn K (.ref D_NoName) (.type "object")=some true) (em_YardError_NoName:PySem.W.exmOne K (.ref D_NoName) (.ref D_YardError)=some true) (ki_NoHour_NoName:PySem.W.kitOne K (.ref D_NoName) (.ref D_NoHour)=some false) (ki_NoName_NoName:PySem.W.kitOne K (.ref D_NoName) (.ref D_NoName)=some true) (ki_TooMany_NoName:PySem.W.kitOne K (.ref D_NoName) (.ref D_TooMany)=some false) (ki_NoBack_NoNumber_NoPlate_NoRow_NoSay_NoSun_NotLit_NoYard_NoName:PySem.W.kitAny K (.ref D_NoName) [.ref D_NoBack,.ref D_NoNumber,.ref D_NoPlate,.ref D_NoRow,.ref D_NoSay,.ref D_NoSun,.ref D_NotLit,.ref D_NoYard]=some false) (ki_ValueError_NoName:PySem.W.kitOne K (.ref D_NoName) (.type "ValueError")=some true) (xi_TooMany:PySem.W.excIn K D_TooMany [.type "ValueError", .type "Exception", .type "BaseException", .type "object"] "ValueError.__new__" = true) (fa_TooMany:PySem.W.findIn K (.ref D_TooMany) "__getattribute__" = some (some (.builtin "BaseException.__getattribute__"))) (fb_TooMany:PySem.W.findIn K (.ref D_TooMany) "__class__" = some (some (.builtin "object.__class__"))) (fc_TooMany:PySem.W.findIn K (.ref D_TooMany) "__getattr__" = some none) (fd_TooMany:PySem.W.subIn K (.ref D_TooMany) (.type "BaseException")=some true) (fe_TooMany:PySem.W.subIn K (.ref D_TooMany) (.type "object")=some true) (em_YardError_TooMany:PySem.W.exmOne K (.ref D_TooMany) (.ref D_YardError)=some true) (ki_NoHour_TooMany:PySem.W.kitOne K (.ref D_TooMany) (.ref D_NoHour)=some false) (ki_NoName_TooMany:PySem.W.kitOne K (.ref D_TooMany) (.ref D_NoName)=some false) (ki_TooMany_TooMany:PySem.W.kitOne K (.ref D_TooMany) (.ref D_TooMany)=some true) (ki_NoBack_NoNumber_NoPlate_NoRow_NoSay_NoSun_NotLit_NoYard_TooMany:PySem.W.kitAny K (.ref D_TooMany) [.ref D_NoBack,.ref D_NoNumber,.ref D_NoPlate,.ref D_NoRow,.ref D_NoSay,.ref D_NoSun,.ref D_NotLit,.ref D_NoYard]=some false) (ki_ValueError_TooMany:PySem.W.kitOne K (.ref D_TooMany) (.type "ValueError")=some true)
  : ∃fd:FuncData,(∀(s:Shared)(v:Value),BindsTo s fd ⟨[v],[]⟩ [("_law_script", v)])/\∀base:Heap,K.In base->base.Ns mainGlobals mg->FnOk l.prog w K mg base CX0 18 fa fd ["_law_script"] (spT K 1 lawSp):=by
 have e:=hfa.symm.trans (PySem.W.mg_of X G a43)
 cases e
 have F0:=fun_mk (st:=Z1V) l0 c0 k0
 have F1:=fun_mk (st:=Z2T) l1 c1 k1
 have F2:=fun_mk (st:=Z25) l2 c2 k2
 have F3:=fun_mk (st:=Z2s) l3 c3 k3
 have F4:=fun_mk (st:=Z3p) l4 c4 k4
 have F5:=fun_mk (st:=Z2t) l5 c5 k5
 have F6:=fun_mk (st:=Z2U) l6 c6 k6
 have F7:=fun_mk (st:=Z3q) l7 c7 k7
 have F8:=fun_mk (st:=Z35) l8 c8 k8
 have F9:=fun_mk (st:=Z1D) l9 c9 k9
 have F10:=fun_mk (st:=Z0S) l10 c10 k10
 have F11:=fun_mk (st:=Z1W) l11 c11 k11
 have F12:=fun_mk (st:=Z2u) l12 c12 k12
 have F13:=fun_mk (st:=Z1E) l13 c13 k13
 have F14:=fun_mk (st:=Z1F) l14 c14 k14
 have F15:=fun_mk (st:=Z26) l15 c15 k15
 have F16:=fun_mk (st:=Z0o) l16 c16 k16
 have F17:=fun_mk (st:=Z0t) l17 c17 k17
 have F18:=fun_mk (st:=Z1G) l18 c18 k18
 have F19:=fun_mk (st:=Z10) l19 c19 k19
 have F20:=fun_mk (st:=Z1r) l20 c20 k20
 have F21:=fun_mk (st:=Z1s) l21 c21 k21
 have F22:=fun_mk (st:=Z1g) l22 c22 k22
 have F23:=fun_mk (st:=Z1b) l23 c23 k23
 have F24:=fun_mk (st:=Z0W) l24 c24 k24
 have F25:=fun_mk (st:=Z16) l25 c25 k25
 have F26:=fun_mk (st:=Z1H) l26 c26 k26
 have F27:=fun_mk (st:=Z1c) l27 c27 k27
 have F28:=fun_mk (st:=Z0r) l28 c28 k28
 have F29:=fun_mk (st:=Z0I) l29 c29 k29
 have F30:=fun_mk (st:=Z1I) l30 c30 k30
 have F31:=fun_mk (st:=Z1d) l31 c31 k31
 have F32:=fun_mk (st:=Z1J) l32 c32 k32
 have F33:=fun_mk (st:=Z0y) l33 c33 k33
 have F34:=fun_mk (st:=Z0T) l34 c34 k34
 have F35:=fun_mk (st:=Z0X) l35 c35 k35
 have F36:=fun_mk (st:=Z1B) l36 c36 k36
 have F37:=fun_mk (st:=Z0p) l37 c37 k37
 have F38:=fun_mk (st:=Z0g) l38 c38 k38
 have F39:=fun_mk (st:=Z0u) l39 c39 k39
 have F40:=fun_mk (st:=Z1u) l40 c40 k40
 have F41:=fun_mk (st:=Z2X) l41 c41 k41
 have F42:=fun_mk (st:=Z2v) l42 c42 k42
 have F43:=fun_mk (st:=Z2a) l43 c43 k43
 have z_len:=PySem.W.mg_none_of X G z0
 have z_range:=PySem.W.mg_none_of X G z1
 have z_int:=PySem.W.mg_none_of X G z2
 have z_enumerate:=PySem.W.mg_none_of X G z3
 have z_min:=PySem.W.mg_none_of X G z4
 have z_max:=PySem.W.mg_none_of X G z5
 have z_isinstance:=PySem.W.mg_none_of X G z6
 have z_bool:=PySem.W.mg_none_of X G z7
 have z_str:=PySem.W.mg_none_of X G z8
 have z_abs:=PySem.W.mg_none_of X G z9
 have z_tuple:=PySem.W.mg_none_of X G z10
 have z_all:=PySem.W.mg_none_of X G z11
 have z_reversed:=PySem.W.mg_none_of X G z12
 have z_list:=PySem.W.mg_none_of X G z13
 have z_ValueError:=PySem.W.mg_none_of X G z14
 have g_WHOLE:GlC K mg "WHOLE" c_WHOLE:=⟨_,PySem.W.mg_of X G cg0,.ref _,rfl,fun H=>rep_tup.mpr ⟨_,[.ref np0_0,.ref np0_1,.ref np0_2,.ref np0_3],rfl,.inr ⟨_,_,_,nh0,rfl,rfl,few (show 4<=1000 by decide),.cons rfl (.cons rfl (.cons rfl (.cons rfl (.nil))))⟩,.cons (rep_tup.mpr ⟨_,[.ref np0_0_0,.ref np0_0_1],rfl,.inr ⟨_,_,_,nh0_0,rfl,rfl,few (show 2<=1000 by decide),.cons rfl (.cons rfl (.nil))⟩,.cons (rep_tup.mpr ⟨_,[.int (0),.int (1)],rfl,.inr ⟨_,_,_,nh0_0_0,rfl,rfl,few (show 2<=1000 by decide),.cons ⟨_,rfl⟩ (.cons ⟨_,rfl⟩ (.nil))⟩,.cons (rep_int.mpr rfl) (.cons (rep_int.mpr rfl) (reps_nil.mpr rfl))⟩) (.cons (rep_tup.mpr ⟨_,[.int (0),.int (1)],rfl,.inr ⟨_,_,_,nh0_0_1,rfl,rfl,few (show 2<=1000 by decide),.cons ⟨_,rfl⟩ (.cons ⟨_,rfl⟩ (.nil))⟩,.cons (rep_int.mpr rfl) (.cons (rep_int.mpr rfl) (reps_nil.mpr rfl))⟩) (reps_nil.mpr rfl))⟩) (.cons (rep_tup.mpr ⟨_,[.ref np0_1_0,.ref np0_1_1],rfl,.inr ⟨_,_,_,nh0_1,rfl,rfl,few (show 2<=1000 by decide),.cons rfl (.cons rfl (.nil))⟩,.cons (rep_tup.mpr ⟨_,[.int (1),.int (1)],rfl,.inr ⟨_,_,_,nh0_1_0,rfl,rfl,few (show 2<=1000 by decide),.cons ⟨_,rfl⟩ (.cons ⟨_,rfl⟩ (.nil))⟩,.cons (rep_int.mpr rfl) (.cons (rep_int.mpr rfl) (reps_nil.mpr rfl))⟩) (.cons (rep_tup.mpr ⟨_,[.int (0),.int (1)],rfl,.inr ⟨_,_,_,nh0_1_1,rfl,rfl,few (show 2<=1000 by decide),.cons ⟨_,rfl⟩ (.cons ⟨_,rfl⟩ (.nil))⟩,.cons (rep_int.mpr rfl) (.cons (rep_int.mpr rfl) (reps_nil.mpr rfl))⟩) (reps_nil.mpr rfl))⟩) (.cons (rep_tup.mpr ⟨_,[.ref np0_2_0,.ref np0_2_1],rfl,.inr ⟨_,_,_,nh0_2,rfl,rfl,few (show 2<=1000 by decide),.cons rfl (.cons rfl (.nil))⟩,.cons (rep_tup.mpr ⟨_,[.int (1),.int (1)],rfl,.inr ⟨_,_,_,nh0_2_0,rfl,rfl,few (show 2<=1000 by decide),.cons ⟨_,rfl⟩ (.cons ⟨_,rfl⟩ (.nil))⟩,.cons (rep_int.mpr rfl) (.cons (rep_int.mpr rfl) (reps_nil.mpr rfl))⟩) (.cons (rep_tup.mpr ⟨_,[.int (1),.int (1)],rfl,.inr ⟨_,_,_,nh0_2_1,rfl,rfl,few (show 2<=1000 by decide),.cons ⟨_,rfl⟩ (.cons ⟨_,rfl⟩ (.nil))⟩,.cons (rep_int.mpr rfl) (.cons (rep_int.mpr rfl) (reps_nil.mpr rfl))⟩) (reps_nil.mpr rfl))⟩) (.cons (rep_tup.mpr ⟨_,[.ref np0_3_0,.ref np0_3_1],rfl,.inr ⟨_,_,_,nh0_3,rfl,rfl,few (show 2<=1000 by decide),.cons rfl (.cons rfl (.nil))⟩,.cons (rep_tup.mpr ⟨_,[.int (0),.int (1)],rfl,.inr ⟨_,_,_,nh0_3_0,rfl,rfl,few (show 2<=1000 by decide),.cons ⟨_,rfl⟩ (.cons ⟨_,rfl⟩ (.nil))⟩,.cons (rep_int.mpr rfl) (.cons (rep_int.mpr rfl) (reps_nil.mpr rfl))⟩) (.cons (rep_tup.mpr ⟨_,[.int (1),.int (1)],rfl,.inr ⟨_,_,_,nh0_3_1,rfl,rfl,few (show 2<=1000 by decide),.cons ⟨_,rfl⟩ (.cons ⟨_,rfl⟩ (.nil))⟩,.cons (rep_int.mpr rfl) (.cons (rep_int.mpr rfl) (reps_nil.mpr rfl))⟩) (reps_nil.mpr rfl))⟩) (reps_nil.mpr rfl))))⟩⟩
 have g_MOST_SHADING:GlC K mg "MOST_SHADING" c_MOST_SHADING:=⟨_,PySem.W.mg_of X G cg1,.int _,⟨_,rfl⟩,fun H=>rep_int.mpr rfl⟩
 have mc_NoHour:=PySem.W.mg_of X G dd_NoHour
 have mc_NoName:=PySem.W.mg_of X G dd_NoName
 have mc_TooMany:=PySem.W.mg_of X G dd_TooMany
 have mc_YardError:=PySem.W.mg_of X G dd_YardError
 have mc_NoBack:=PySem.W.mg_of X G dd_NoBack
 have mc_NoNumber:=PySem.W.mg_of X G dd_NoNumber
 have mc_NoPlate:=PySem.W.mg_of X G dd_NoPlate
 have mc_NoRow:=PySem.W.mg_of X G dd_NoRow
 have mc_NoSay:=PySem.W.mg_of X G dd_NoSay
 have mc_NoSun:=PySem.W.mg_of X G dd_NoSun
 have mc_NotLit:=PySem.W.mg_of X G dd_NotLit
 have mc_NoYard:=PySem.W.mg_of X G dd_NoYard
 have tl_NoHour:ClsTold K D_NoHour:=⟨fa_NoHour,fb_NoHour,fc_NoHour,fd_NoHour,fe_NoHour⟩
 have tl_NoName:ClsTold K D_NoName:=⟨fa_NoName,fb_NoName,fc_NoName,fd_NoName,fe_NoName⟩
 have tl_TooMany:ClsTold K D_TooMany:=⟨fa_TooMany,fb_TooMany,fc_TooMany,fd_TooMany,fe_TooMany⟩
 have x_NoName:ExcCls K mg "NoName" := ⟨D_NoName,dd_NoName,mc_NoName,xi_NoName⟩
 have x_TooMany:ExcCls K mg "TooMany" := ⟨D_TooMany,dd_TooMany,mc_TooMany,xi_TooMany⟩
 have fI_NoHour:=fun_mk (st:=ini_NoHour) li_NoHour lc_NoHour lk_NoHour
 have x_NoHour:FldCls K mg "NoHour" "hour" := ini_fld (st:=ini_NoHour) dd_NoHour mc_NoHour xi_NoHour fI_NoHour ⟨_,li_NoHour,rfl⟩ (fI_NoHour.binds (ps:=["self", "hour"]) fun _ _ _ _ _ _ us hl=>args2 hl fun _ _=>rfl) rfl sc_ini_NoHour (.inl rfl) (.inl rfl) rfl mc_YardError sp_NoHour rd_NoHour fk_NoHour sa_NoHour na_NoHour ci_NoHour mr_NoHour hd_NoHour (by decide) rfl rfl rfl rfl rfl (fun _=>rfl) (fun _=>rfl)
 have gf_hour:GetF K "hour" ["NoHour"]:=(getF_cons dd_NoHour ⟨fa_NoHour,fc_NoHour,ci_NoHour,mr_NoHour,hd_NoHour,na_NoHour⟩ getF_nil)
 have ct_YardError:Catches K mg "YardError" ["NoHour", "NoName", "TooMany"]:=catches_cons dd_NoHour mc_YardError em_YardError_NoHour (catches_cons dd_NoName mc_YardError em_YardError_NoName (catches_cons dd_TooMany mc_YardError em_YardError_TooMany (catches_nil mc_YardError)))
 have an_NoHour:=ans1_cons dd_NoHour tl_NoHour (isCls_own xi_NoHour) ki_NoHour_NoHour (ans1_cons dd_NoName tl_NoName (isCls_of xi_NoName) ki_NoHour_NoName (ans1_cons dd_TooMany tl_TooMany (isCls_of xi_TooMany) ki_NoHour_TooMany (ans1_nil)))
 have an_NoName:=ans1_cons dd_NoHour tl_NoHour (isCls_own xi_NoHour) ki_NoName_NoHour (ans1_cons dd_NoName tl_NoName (isCls_of xi_NoName) ki_NoName_NoName (ans1_cons dd_TooMany tl_TooMany (isCls_of xi_TooMany) ki_NoName_TooMany (ans1_nil)))
 have an_TooMany:=ans1_cons dd_NoHour tl_NoHour (isCls_own xi_NoHour) ki_TooMany_NoHour (ans1_cons dd_NoName tl_NoName (isCls_of xi_NoName) ki_TooMany_NoName (ans1_cons dd_TooMany tl_TooMany (isCls_of xi_TooMany) ki_TooMany_TooMany (ans1_nil)))
 have an_NoBack_NoNumber_NoPlate_NoRow_NoSay_NoSun_NotLit_NoYard:=ansN_cons dd_NoHour tl_NoHour (isCls_own xi_NoHour) ki_NoBack_NoNumber_NoPlate_NoRow_NoSay_NoSun_NotLit_NoYard_NoHour (ansN_cons dd_NoName tl_NoName (isCls_of xi_NoName) ki_NoBack_NoNumber_NoPlate_NoRow_NoSay_NoSun_NotLit_NoYard_NoName (ansN_cons dd_TooMany tl_TooMany (isCls_of xi_TooMany) ki_NoBack_NoNumber_NoPlate_NoRow_NoSay_NoSun_NotLit_NoYard_TooMany (ansN_nil)))
 have an_ValueError:=ans1_cons dd_NoHour tl_NoHour (isCls_own xi_NoHour) ki_ValueError_NoHour (ans1_cons dd_NoName tl_NoName (isCls_of xi_NoName) ki_ValueError_NoName (ans1_cons dd_TooMany tl_TooMany (isCls_of xi_TooMany) ki_ValueError_TooMany (ans1_nil)))
 refine⟨PySem.W.fnOf "law" "law" (defArgs Z2a) (defBody Z2a) (defScope Z2a) .none kV43 dc43 pm43 an43 cd43 ct43,fun s v=>.of_eq rfl,fun base _ _=>?_⟩
 have Z2z:=Z5r (P:=l.prog) (w:=w) (base:=base) F0 (PySem.W.mg_of X G a0) z_len
 have Z2o:=Z64 (P:=l.prog) (w:=w) (base:=base) F1 (PySem.W.mg_of X G a1) z_range
 have Z4s:=Z5T (P:=l.prog) (w:=w) (base:=base) F2 (PySem.W.mg_of X G a2) Z2o z_range z_len z_int
 have Z4p:=Z5U (P:=l.prog) (w:=w) (base:=base) F3 (PySem.W.mg_of X G a3)
 have Z5G:=Z6b (P:=l.prog) (w:=w) (base:=base) F4 (PySem.W.mg_of X G a4)
 have Z4r:=Z5V (P:=l.prog) (w:=w) (base:=base) F5 (PySem.W.mg_of X G a5) Z2o
 have Z5c:=Z65 (P:=l.prog) (w:=w) (base:=base) F6 (PySem.W.mg_of X G a6) Z4p Z2z Z2o Z5G Z4r z_int z_enumerate
 have Z5I:=Z6c (P:=l.prog) (w:=w) (base:=base) F7 (PySem.W.mg_of X G a7)
 have Z5H:=Z6d (P:=l.prog) (w:=w) (base:=base) F8 (PySem.W.mg_of X G a8) Z5I z_range z_int z_enumerate z_min z_max z_len
 have Z2c:=Z5d (P:=l.prog) (w:=w) (base:=base) F9 (PySem.W.mg_of X G a9) z_isinstance z_int z_bool
 have Z0Z:=Z3Z (P:=l.prog) (w:=w) (base:=base) F10 (PySem.W.mg_of X G a10) Z2c x_NoHour
 have Z3C:=Z5u (P:=l.prog) (w:=w) (base:=base) F11 (PySem.W.mg_of X G a11) z_isinstance z_str x_NoName
 have Z4y:=Z5W (P:=l.prog) (w:=w) (base:=base) F12 (PySem.W.mg_of X G a12) Z0Z
 have Z2d:=Z5e (P:=l.prog) (w:=w) (base:=base) F13 (PySem.W.mg_of X G a13)
 have Z1z:=Z5f (P:=l.prog) (w:=w) (base:=base) F14 (PySem.W.mg_of X G a14) Z2d
 have Z2S:=Z5J (P:=l.prog) (w:=w) (base:=base) F15 (PySem.W.mg_of X G a15)
 have Z1L:=Z3i (P:=l.prog) (w:=w) (base:=base) F16 (PySem.W.mg_of X G a16) Z1z Z2S
 have Z1T:=Z3t (P:=l.prog) (w:=w) (base:=base) F17 (PySem.W.mg_of X G a17) z_abs
 have Z11:=Z5g (P:=l.prog) (w:=w) (base:=base) F18 (PySem.W.mg_of X G a18) Z2c Z1T
 have Z0f:=Z4a (P:=l.prog) (w:=w) (base:=base) F19 (PySem.W.mg_of X G a19) Z11
 have Z09:=Z4M (P:=l.prog) (w:=w) (base:=base) F20 (PySem.W.mg_of X G a20) Z11
 have Z33:=Z4N (P:=l.prog) (w:=w) (base:=base) F21 (PySem.W.mg_of X G a21) Z0f Z09
 have Z3h:=Z5h (P:=l.prog) (w:=w) (base:=base) F22 (PySem.W.mg_of X G a22) Z33 z_range z_tuple
 have Z02:=Z4u (P:=l.prog) (w:=w) (base:=base) F23 (PySem.W.mg_of X G a23) Z11
 have Z1N:=Z4v (P:=l.prog) (w:=w) (base:=base) F24 (PySem.W.mg_of X G a24) Z02 z_range z_tuple
 have Z1Y:=Z4O (P:=l.prog) (w:=w) (base:=base) F25 (PySem.W.mg_of X G a25) Z0f Z09 z_range
 have Z2e:=Z5i (P:=l.prog) (w:=w) (base:=base) F26 (PySem.W.mg_of X G a26) Z11
 have Z2P:=Z4w (P:=l.prog) (w:=w) (base:=base) F27 (PySem.W.mg_of X G a27) Z1z Z2S Z1N Z2d Z1Y Z2e
 have Z24:=Z3Q (P:=l.prog) (w:=w) (base:=base) F28 (PySem.W.mg_of X G a28) Z02 Z0f Z09 z_range z_tuple
 have Z0U:=Z3R (P:=l.prog) (w:=w) (base:=base) F29 (PySem.W.mg_of X G a29) Z02 Z2e Z24 z_enumerate
 have Z12:=Z5j (P:=l.prog) (w:=w) (base:=base) F30 (PySem.W.mg_of X G a30) Z0f Z02 Z09 z_enumerate
 have Z2A:=Z5v (P:=l.prog) (w:=w) (base:=base) F31 (PySem.W.mg_of X G a31) Z02 Z0f z_range
 have Z3g:=Z5k (P:=l.prog) (w:=w) (base:=base) F32 (PySem.W.mg_of X G a32)
 have Z1Z:=Z3B (P:=l.prog) (w:=w) (base:=base) F33 (PySem.W.mg_of X G a33) Z3g
 have Z2i:=Z40 (P:=l.prog) (w:=w) (base:=base) F34 (PySem.W.mg_of X G a34) Z1Z z_enumerate
 have Z2O:=Z4x (P:=l.prog) (w:=w) (base:=base) F35 (PySem.W.mg_of X G a35) Z2A Z2i z_enumerate z_len
 have Z1f:=Z5w (P:=l.prog) (w:=w) (base:=base) F36 (PySem.W.mg_of X G a36) Z2A Z0U Z2O z_enumerate
 have Z34:=Z4P (P:=l.prog) (w:=w) (base:=base) F37 (PySem.W.mg_of X G a37) Z3h Z1N Z1z Z1Y Z2P Z0U Z12 Z1f z_all z_reversed z_list g_WHOLE
 have Z2j:=Z41 (P:=l.prog) (w:=w) (base:=base) F38 (PySem.W.mg_of X G a38) Z34
 have Z1A:=Z4b (P:=l.prog) (w:=w) (base:=base) F39 (PySem.W.mg_of X G a39) Z1f Z12 Z02 Z09 z_enumerate
 have Z36:=Z4Q (P:=l.prog) (w:=w) (base:=base) F40 (PySem.W.mg_of X G a40) Z0Z Z3C Z4y Z1L Z2j Z1A Z02 z_len g_MOST_SHADING x_TooMany
 have Z5b:=Z66 (P:=l.prog) (w:=w) (base:=base) F41 (PySem.W.mg_of X G a41) Z36 z_isinstance z_ValueError ct_YardError gf_hour mc_NoHour mc_NoName mc_TooMany mc_NoBack mc_NoNumber mc_NoPlate mc_NoRow mc_NoSay mc_NoSun mc_NotLit mc_NoYard an_NoHour an_NoName an_TooMany an_NoBack_NoNumber_NoPlate_NoRow_NoSay_NoSun_NotLit_NoYard an_ValueError
 have Z4q:=Z5X (P:=l.prog) (w:=w) (base:=base) F42 (PySem.W.mg_of X G a42) z_isinstance z_tuple z_bool
 exact(Z6e (P:=l.prog) (w:=w) (base:=base) F43 Z2z Z2o Z4s Z5c Z5H Z5b Z4q z_range z_tuple z_list z_len).ok
end TL
open PySem PySem.W PyProof.Rows
def PySem.W.Fast.tw41102231367380625:Nat:=0
def PySem.W.Fast.tw16734172264019793619:Nat:=0
def PySem.W.Fast.tw15373158007395935695:Nat:=0
def PySem.W.Fast.tw11621566998404228744:Nat:=0
def PySem.W.Fast.tw13799911892068742076:Nat:=0
def PySem.W.Fast.tw1859117385989383214:Nat:=0
def PySem.W.Fast.tw8824190355852523972:Nat:=0
def PySem.W.Fast.tw2741454123162537207:Nat:=0
def PySem.W.Fast.tw6867157397429727414:Nat:=0
def PySem.W.Fast.tw5201454531581946740:Nat:=0
def PySem.W.Fast.tw1311532897260055990:Nat:=0
def PySem.W.Fast.tw14257474178245906695:Nat:=0
def PySem.W.Fast.tw5212032895103875541:Nat:=0
def PySem.W.Fast.tw16796445850745184822:Nat:=0
def PySem.W.Fast.tw14491940971030343758:Nat:=0
def PySem.W.Fast.tw11020960494066919260:Nat:=0
def PySem.W.Fast.tw15637137668244474745:Nat:=0
def PySem.W.Fast.tw2483150214103162544:Nat:=0
def PySem.W.Fast.tw3777616901041964571:Nat:=0
def PySem.W.Fast.tw12159651317437577050:Nat:=0
def PySem.W.Fast.tw10442882788502888183:Nat:=0
def PySem.W.Fast.tw14027153452723925715:Nat:=0
def PySem.W.Fast.tw2447311100989654470:Nat:=0
def PySem.W.Fast.tw10379632782024699243:Nat:=0
def PySem.W.Fast.tw15896028478889391870:Nat:=0
def PySem.W.Fast.tw2880334077860000453:Nat:=0
def PySem.W.Fast.tw13707293626180222314:Nat:=0
def PySem.W.Fast.tw10987234253781623855:Nat:=0
def PySem.W.Fast.tw17053728117781882080:Nat:=0
def PySem.W.Fast.tw6701024070615532352:Nat:=0
def PySem.W.Fast.tw4664870119300811787:Nat:=0
def PySem.W.Fast.tw11818283862631496285:Nat:=0
def PySem.W.Fast.tw4610070654053676618:Nat:=0
def PySem.W.Fast.tw2870136457236102156:Nat:=0
def PySem.W.Fast.tw1950424279353909308:Nat:=0
def PySem.W.Fast.tw3644573505020320168:Nat:=0
def PySem.W.Fast.tw8497543149697451443:Nat:=0
def PySem.W.Fast.tw6525679711707968522:Nat:=0
def PySem.W.Fast.tw15735883268700472185:Nat:=0
def PySem.W.Fast.tw7289766177346056370:Nat:=0
def PySem.W.Fast.tw11357555422429940379:Nat:=0
def PySem.W.Fast.tw1535111508674246646:Nat:=0
def PySem.W.Fast.tw15884065824427448746:Nat:=0
def PySem.W.Fast.tw11130246540970431066:Nat:=0
def PySem.W.Fast.tw2806219009187943143:Nat:=0
def PySem.W.Fast.tw8332299442621875829:Nat:=0
def PySem.W.Fast.tw887631780390523011:Nat:=0
def PySem.W.Fast.tw10770714071956966659:Nat:=0
def PySem.W.Fast.tw4240387677579090720:Nat:=0
def PySem.W.Fast.tw5213900967979383646:Nat:=0
def PySem.W.Fast.tw222071799827855501:Nat:=0
def PySem.W.Fast.tw18161057021758736529:Nat:=0
def PySem.W.Fast.tw9987883291713123448:Nat:=0
def PySem.W.Fast.tw8353748341081618831:Nat:=0
def PySem.W.Fast.tw4183722641210053345:Nat:=0
def PySem.W.Fast.tw17852781704711931569:Nat:=0
def PySem.W.Fast.tw10039361062170610729:Nat:=0
def PySem.W.Fast.tw4178144594219837724:Nat:=0
def PySem.W.Fast.tw10618313979301607383:Nat:=0
def PySem.W.Fast.tw8751588494395265362:Nat:=0
def PySem.W.Fast.tw1991660904375772975:Nat:=0
def PySem.W.Fast.tw9343217444105597907:Nat:=0
def PySem.W.Fast.tw11558739218256024249:Nat:=0
def PySem.W.Fast.tw15763147039812180180:Nat:=0
def PySem.W.Fast.tw2702491943241573716:Nat:=0
def PySem.W.Fast.tw10465371966296754570:Nat:=0
def PySem.W.Fast.tw12724470382086482087:Nat:=0
def PySem.W.Fast.tw15879081952462914606:Nat:=0
def PySem.W.Fast.tw4474506410131969199:Nat:=0
def PySem.W.Fast.tw8451466269271779334:Nat:=0
def PySem.W.Fast.tw12734812090678567602:Nat:=0
def PySem.W.Fast.tw12260354047830821896:Nat:=0
def PySem.W.Fast.tw12094729171360883240:Nat:=0
def PySem.W.Fast.tw2418319204415444715:Nat:=0
def PySem.W.Fast.tw9457566666843473366:Nat:=0
def PySem.W.Fast.tw5054718994250507358:Nat:=0
def PySem.W.Fast.tw4719161807514063845:Nat:=0
def PySem.W.Fast.tw4716801177743636494:Nat:=0
def PySem.W.Fast.tw5153175133416451139:Nat:=0
def PySem.W.Fast.tw11392471014752551186:Nat:=0
def PySem.W.Fast.tw1293911302563652045:Nat:=0
def PySem.W.Fast.tw7038170611371797023:Nat:=0
def PySem.W.Fast.tw8053976502737429488:Nat:=0
set_option maxRecDepth 100000 in
set_option maxHeartbeats 0 in
theorem PySem.Challenge.cw_dialyard_k76_lit_counted_holds : PySem.Challenge.rw_dialyard_k76_lit_counted.Holds := by
 w_on;o_law;k_head;(case hw=>w_witness2)
 k_fill
 refine TL.walk (l:=PySem.Challenge.rw_dialyard_k76_lit_counted) (x := "_law_script") (k:=18) rfl rfl ⟨rfl,by decide,by decide⟩ (fun w h Y=>PySem.W.kIn_of Y) ?F
 case F =>
  intro w mg fa h KX G hmg
  refine' TL.all_mk KX G hmg ?a0 ?l0 ?c0 ?k0 ?a1 ?l1 ?c1 ?k1 ?a2 ?l2 ?c2 ?k2 ?a3 ?l3 ?c3 ?k3 ?a4 ?l4 ?c4 ?k4 ?a5 ?l5 ?c5 ?k5 ?a6 ?l6 ?c6 ?k6 ?a7 ?l7 ?c7 ?k7 ?a8 ?l8 ?c8 ?k8 ?a9 ?l9 ?c9 ?k9 ?a10 ?l10 ?c10 ?k10 ?a11 ?l11 ?c11 ?k11 ?a12 ?l12 ?c12 ?k12 ?a13 ?l13 ?c13 ?k13 ?a14 ?l14 ?c14 ?k14 ?a15 ?l15 ?c15 ?k15 ?a16 ?l16 ?c16 ?k16 ?a17 ?l17 ?c17 ?k17 ?a18 ?l18 ?c18 ?k18 ?a19 ?l19 ?c19 ?k19 ?a20 ?l20 ?c20 ?k20 ?a21 ?l21 ?c21 ?k21 ?a22 ?l22 ?c22 ?k22 ?a23 ?l23 ?c23 ?k23 ?a24 ?l24 ?c24 ?k24 ?a25 ?l25 ?c25 ?k25 ?a26 ?l26 ?c26 ?k26 ?a27 ?l27 ?c27 ?k27 ?a28 ?l28 ?c28 ?k28 ?a29 ?l29 ?c29 ?k29 ?a30 ?l30 ?c30 ?k30 ?a31 ?l31 ?c31 ?k31 ?a32 ?l32 ?c32 ?k32 ?a33 ?l33 ?c33 ?k33 ?a34 ?l34 ?c34 ?k34 ?a35 ?l35 ?c35 ?k35 ?a36 ?l36 ?c36 ?k36 ?a37 ?l37 ?c37 ?k37 ?a38 ?l38 ?c38 ?k38 ?a39 ?l39 ?c39 ?k39 ?a40 ?l40 ?c40 ?k40 ?a41 ?l41 ?c41 ?k41 ?a42 ?l42 ?c42 ?k42 ?a43 ?l43 ?c43 ?k43 ?z0 ?z1 ?z2 ?z3 ?z4 ?z5 ?z6 ?z7 ?z8 ?z9 ?z10 ?z11 ?z12 ?z13 ?z14 ?cg0 ?nh0 ?nh0_0 ?nh0_0_0 ?nh0_0_1 ?nh0_1 ?nh0_1_0 ?nh0_1_1 ?nh0_2 ?nh0_2_0 ?nh0_2_1 ?nh0_3 ?nh0_3_0 ?nh0_3_1 ?cg1 ?dd_NoHour ?dd_NoName ?dd_TooMany ?dd_YardError ?dd_NoBack ?dd_NoNumber ?dd_NoPlate ?dd_NoRow ?dd_NoSay ?dd_NoSun ?dd_NotLit ?dd_NoYard ?ff_NoHour ?xi_NoHour ?li_NoHour ?lc_NoHour ?lk_NoHour ?ci_NoHour ?mr_NoHour ?hd_NoHour ?sa_NoHour ?na_NoHour ?sp_NoHour ?rd_NoHour ?fk_NoHour ?fa_NoHour ?fb_NoHour ?fc_NoHour ?fd_NoHour ?fe_NoHour ?em_YardError_NoHour ?ki_NoHour_NoHour ?ki_NoName_NoHour ?ki_TooMany_NoHour ?ki_NoBack_NoNumber_NoPlate_NoRow_NoSay_NoSun_NotLit_NoYard_NoHour ?ki_ValueError_NoHour ?xi_NoName ?fa_NoName ?fb_NoName ?fc_NoName ?fd_NoName ?fe_NoName ?em_YardError_NoName ?ki_NoHour_NoName ?ki_NoName_NoName ?ki_TooMany_NoName ?ki_NoBack_NoNumber_NoPlate_NoRow_NoSay_NoSun_NotLit_NoYard_NoName ?ki_ValueError_NoName ?xi_TooMany ?fa_TooMany ?fb_TooMany ?fc_TooMany ?fd_TooMany ?fe_TooMany ?em_YardError_TooMany ?ki_NoHour_TooMany ?ki_NoName_TooMany ?ki_TooMany_TooMany ?ki_NoBack_NoNumber_NoPlate_NoRow_NoSay_NoSun_NotLit_NoYard_TooMany ?ki_ValueError_TooMany
  (case a0=>k_is)
  (case l0=>k_is)
  (case c0=>k_is)
  (case k0=>k_is)
  (case a1=>k_is)
  (case l1=>k_is)
  (case c1=>k_is)
  (case k1=>k_is)
  (case a2=>k_is)
  (case l2=>k_is)
  (case c2=>k_is)
  (case k2=>k_is)
  (case a3=>k_is)
  (case l3=>k_is)
  (case c3=>k_is)
  (case k3=>k_is)
  (case a4=>k_is)
  (case l4=>k_is)
  (case c4=>k_is)
  (case k4=>k_is)
  (case a5=>k_is)
  (case l5=>k_is)
  (case c5=>k_is)
  (case k5=>k_is)
  (case a6=>k_is)
  (case l6=>k_is)
  (case c6=>k_is)
  (case k6=>k_is)
  (case a7=>k_is)
  (case l7=>k_is)
  (case c7=>k_is)
  (case k7=>k_is)
  (case a8=>k_is)
  (case l8=>k_is)
  (case c8=>k_is)
  (case k8=>k_is)
  (case a9=>k_is)
  (case l9=>k_is)
  (case c9=>k_is)
  (case k9=>k_is)
  (case a10=>k_is)
  (case l10=>k_is)
  (case c10=>k_is)
  (case k10=>k_is)
  (case a11=>k_is)
  (case l11=>k_is)
  (case c11=>k_is)
  (case k11=>k_is)
  (case a12=>k_is)
  (case l12=>k_is)
  (case c12=>k_is)
  (case k12=>k_is)
  (case a13=>k_is)
  (case l13=>k_is)
  (case c13=>k_is)
  (case k13=>k_is)
  (case a14=>k_is)
  (case l14=>k_is)
  (case c14=>k_is)
  (case k14=>k_is)
  (case a15=>k_is)
  (case l15=>k_is)
  (case c15=>k_is)
  (case k15=>k_is)
  (case a16=>k_is)
  (case l16=>k_is)
  (case c16=>k_is)
  (case k16=>k_is)
  (case a17=>k_is)
  (case l17=>k_is)
  (case c17=>k_is)
  (case k17=>k_is)
  (case a18=>k_is)
  (case l18=>k_is)
  (case c18=>k_is)
  (case k18=>k_is)
  (case a19=>k_is)
  (case l19=>k_is)
  (case c19=>k_is)
  (case k19=>k_is)
  (case a20=>k_is)
  (case l20=>k_is)
  (case c20=>k_is)
  (case k20=>k_is)
  (case a21=>k_is)
  (case l21=>k_is)
  (case c21=>k_is)
  (case k21=>k_is)
  (case a22=>k_is)
  (case l22=>k_is)
  (case c22=>k_is)
  (case k22=>k_is)
  (case a23=>k_is)
  (case l23=>k_is)
  (case c23=>k_is)
  (case k23=>k_is)
  (case a24=>k_is)
  (case l24=>k_is)
  (case c24=>k_is)
  (case k24=>k_is)
  (case a25=>k_is)
  (case l25=>k_is)
  (case c25=>k_is)
  (case k25=>k_is)
  (case a26=>k_is)
  (case l26=>k_is)
  (case c26=>k_is)
  (case k26=>k_is)
  (case a27=>k_is)
  (case l27=>k_is)
  (case c27=>k_is)
  (case k27=>k_is)
  (case a28=>k_is)
  (case l28=>k_is)
  (case c28=>k_is)
  (case k28=>k_is)
  (case a29=>k_is)
  (case l29=>k_is)
  (case c29=>k_is)
  (case k29=>k_is)
  (case a30=>k_is)
  (case l30=>k_is)
  (case c30=>k_is)
  (case k30=>k_is)
  (case a31=>k_is)
  (case l31=>k_is)
  (case c31=>k_is)
  (case k31=>k_is)
  (case a32=>k_is)
  (case l32=>k_is)
  (case c32=>k_is)
  (case k32=>k_is)
  (case a33=>k_is)
  (case l33=>k_is)
  (case c33=>k_is)
  (case k33=>k_is)
  (case a34=>k_is)
  (case l34=>k_is)
  (case c34=>k_is)
  (case k34=>k_is)
  (case a35=>k_is)
  (case l35=>k_is)
  (case c35=>k_is)
  (case k35=>k_is)
  (case a36=>k_is)
  (case l36=>k_is)
  (case c36=>k_is)
  (case k36=>k_is)
  (case a37=>k_is)
  (case l37=>k_is)
  (case c37=>k_is)
  (case k37=>k_is)
  (case a38=>k_is)
  (case l38=>k_is)
  (case c38=>k_is)
  (case k38=>k_is)
  (case a39=>k_is)
  (case l39=>k_is)
  (case c39=>k_is)
  (case k39=>k_is)
  (case a40=>k_is)
  (case l40=>k_is)
  (case c40=>k_is)
  (case k40=>k_is)
  (case a41=>k_is)
  (case l41=>k_is)
  (case c41=>k_is)
  (case k41=>k_is)
  (case a42=>k_is)
  (case l42=>k_is)
  (case c42=>k_is)
  (case k42=>k_is)
  (case a43=>k_is)
  (case l43=>k_is)
  (case c43=>k_is)
  (case k43=>k_is)
  (case z0=>k_is)
  (case z1=>k_is)
  (case z2=>k_is)
  (case z3=>k_is)
  (case z4=>k_is)
  (case z5=>k_is)
  (case z6=>k_is)
  (case z7=>k_is)
  (case z8=>k_is)
  (case z9=>k_is)
  (case z10=>k_is)
  (case z11=>k_is)
  (case z12=>k_is)
  (case z13=>k_is)
  (case z14=>k_is)
  (case cg0=>k_is)
  (case nh0=>k_is)
  (case nh0_0=>k_is)
  (case nh0_0_0=>k_is)
  (case nh0_0_1=>k_is)
  (case nh0_1=>k_is)
  (case nh0_1_0=>k_is)
  (case nh0_1_1=>k_is)
  (case nh0_2=>k_is)
  (case nh0_2_0=>k_is)
  (case nh0_2_1=>k_is)
  (case nh0_3=>k_is)
  (case nh0_3_0=>k_is)
  (case nh0_3_1=>k_is)
  (case cg1=>k_is)
  (case dd_NoHour=>k_is)
  (case dd_NoName=>k_is)
  (case dd_TooMany=>k_is)
  (case dd_YardError=>k_is)
  (case dd_NoBack=>k_is)
  (case dd_NoNumber=>k_is)
  (case dd_NoPlate=>k_is)
  (case dd_NoRow=>k_is)
  (case dd_NoSay=>k_is)
  (case dd_NoSun=>k_is)
  (case dd_NotLit=>k_is)
  (case dd_NoYard=>k_is)
  (case ff_NoHour=>k_is)
  (case xi_NoHour=>kernel_rfl)
  (case li_NoHour=>k_is)
  (case lc_NoHour=>k_is)
  (case lk_NoHour=>k_is)
  (case ci_NoHour=>k_is)
  (case mr_NoHour=>rfl)
  (case hd_NoHour=>rfl)
  (case sa_NoHour=>k_is)
  (case na_NoHour=>k_is)
  (case sp_NoHour=>k_is)
  (case rd_NoHour=>k_is)
  (case fk_NoHour=>k_is)
  (case fa_NoHour=>k_is)
  (case fb_NoHour=>k_is)
  (case fc_NoHour=>k_is)
  (case fd_NoHour=>k_is)
  (case fe_NoHour=>k_is)
  (case em_YardError_NoHour=>kts_exm)
  (case ki_NoHour_NoHour=>kit_is)
  (case ki_NoName_NoHour=>kit_is)
  (case ki_TooMany_NoHour=>kit_is)
  (case ki_NoBack_NoNumber_NoPlate_NoRow_NoSay_NoSun_NotLit_NoYard_NoHour=>kit_is)
  (case ki_ValueError_NoHour=>kit_is)
  (case xi_NoName=>k_exc)
  (case fa_NoName=>k_is)
  (case fb_NoName=>k_is)
  (case fc_NoName=>k_is)
  (case fd_NoName=>k_is)
  (case fe_NoName=>k_is)
  (case em_YardError_NoName=>kts_exm)
  (case ki_NoHour_NoName=>kit_is)
  (case ki_NoName_NoName=>kit_is)
  (case ki_TooMany_NoName=>kit_is)
  (case ki_NoBack_NoNumber_NoPlate_NoRow_NoSay_NoSun_NotLit_NoYard_NoName=>kit_is)
  (case ki_ValueError_NoName=>kit_is)
  (case xi_TooMany=>k_exc)
  (case fa_TooMany=>k_is)
  (case fb_TooMany=>k_is)
  (case fc_TooMany=>k_is)
  (case fd_TooMany=>k_is)
  (case fe_TooMany=>k_is)
  (case em_YardError_TooMany=>kts_exm)
  (case ki_NoHour_TooMany=>kit_is)
  (case ki_NoName_TooMany=>kit_is)
  (case ki_TooMany_TooMany=>kit_is)
  (case ki_NoBack_NoNumber_NoPlate_NoRow_NoSay_NoSun_NotLit_NoYard_TooMany=>kit_is)
  (case ki_ValueError_TooMany=>kit_is)
